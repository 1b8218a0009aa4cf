import PyProof.Rows.All
import Wide.All
import OpenK.AllK
import Wide.FinOn
import PyProof.EqAt
import PyProof.EqKinds
import PyProof.TupleCall
import Open.SpecLaws
import KE.OsHead
import KE.OsGo
import KE.BitLaws
import PySem.Challenge.RW_markreader_s01_answers
namespace PySem.W.Fast
theorem tw12882506708528574528 : True := trivial
theorem tw13487873484202133568 : True := trivial
theorem tw2554065681301676128 : True := trivial
theorem tw5328109851912202432 : True := trivial
theorem tw5925199436871745760 : True := trivial
theorem tw3716216214203441440 : True := trivial
theorem tw7907830401426223456 : True := trivial
theorem tw2904422730231589312 : True := trivial
theorem tw12208536910727232000 : True := trivial
theorem tw722361021392095808 : True := trivial
theorem tw13708726430057379392 : True := trivial
theorem tw10390095493062377024 : True := trivial
theorem tw1035851861487137632 : True := trivial
theorem tw6438379872408266592 : True := trivial
theorem tw14583448206129629120 : True := trivial
theorem tw10164794139979883456 : True := trivial
theorem tw16877154864948765632 : True := trivial
theorem tw13937792315001694144 : True := trivial
theorem tw15147364151347487745 : True := trivial
theorem tw12264708203840073729 : True := trivial
theorem tw807415852830650433 : True := trivial
theorem tw12599618698340325505 : True := trivial
theorem tw4389701106439515297 : True := trivial
theorem tw4872356081665289409 : True := trivial
theorem tw17797039830399463617 : True := trivial
theorem tw17871081163976370369 : True := trivial
theorem tw11988398384817573153 : True := trivial
theorem tw6979837798897776929 : True := trivial
theorem tw10506408796529761601 : True := trivial
theorem tw12017308258295483841 : True := trivial
theorem tw683745996611966465 : True := trivial
theorem tw6849939812667561505 : True := trivial
theorem tw6227428522299657793 : True := trivial
theorem tw11756309969626242625 : True := trivial
theorem tw4180248358505916033 : True := trivial
theorem tw3134611765709311681 : True := trivial
theorem tw4902704706372056833 : True := trivial
theorem tw434993717655041857 : True := trivial
theorem tw15186892528233597793 : True := trivial
theorem tw1695245480793297793 : True := trivial
theorem tw612585170465543073 : True := trivial
theorem tw11114099941347178433 : True := trivial
theorem tw2607397848334616642 : True := trivial
theorem tw12195422934458930274 : True := trivial
theorem tw1035346029557449858 : True := trivial
theorem tw15428463479716785282 : True := trivial
theorem tw16290442154812998850 : True := trivial
theorem tw15563762792163479746 : True := trivial
theorem tw12802559990929539266 : True := trivial
theorem tw15440015891801408802 : True := trivial
theorem tw10684025399430875426 : True := trivial
theorem tw7833696365722843426 : True := trivial
theorem tw17159486740646338882 : True := trivial
theorem tw15759588869973225858 : True := trivial
theorem tw245197271152979330 : True := trivial
theorem tw972635547276040610 : True := trivial
theorem tw4396628557161724386 : True := trivial
theorem tw11532349962282269154 : True := trivial
theorem tw11538911099070908962 : True := trivial
theorem tw12123023602237484834 : True := trivial
theorem tw2206182423019201378 : True := trivial
theorem tw14162133577546142755 : True := trivial
theorem tw5491214878629326883 : True := trivial
theorem tw2533938614546678851 : True := trivial
theorem tw6332623184671960131 : True := trivial
theorem tw9799335366444188803 : True := trivial
theorem tw6939232173986562243 : True := trivial
theorem tw11639524445637313891 : True := trivial
theorem tw270035728622526851 : True := trivial
theorem tw12452652653744222595 : True := trivial
theorem tw6834247643732709827 : True := trivial
theorem tw17163339875213121283 : True := trivial
theorem tw9712682365183440643 : True := trivial
theorem tw14510218653682285347 : True := trivial
theorem tw12209968284037383011 : True := trivial
theorem tw15680834453252775779 : True := trivial
theorem tw10301165952656144259 : True := trivial
theorem tw12753477854652719075 : True := trivial
theorem tw1677368768872498180 : True := trivial
theorem tw8390377700909161508 : True := trivial
theorem tw4536350817435035684 : True := trivial
theorem tw15799333653554433092 : True := trivial
theorem tw2178983009266050212 : True := trivial
theorem tw17005677942312312004 : True := trivial
theorem tw12267102617215944900 : True := trivial
theorem tw10165551584774890756 : True := trivial
theorem tw7759388707517141316 : True := trivial
theorem tw12325644769200578948 : True := trivial
theorem tw10299673832188102244 : True := trivial
theorem tw12466240522630135524 : True := trivial
theorem tw5998868018290538244 : True := trivial
theorem tw14895623582217946884 : True := trivial
theorem tw13833409112659099396 : True := trivial
theorem tw4096304965078047524 : True := trivial
theorem tw16451528102751224644 : True := trivial
theorem tw15831930942285189060 : True := trivial
theorem tw7584815482053936100 : True := trivial
theorem tw8208763605026764772 : True := trivial
theorem tw12657665324053693445 : True := trivial
theorem tw6378298497997138981 : True := trivial
theorem tw645424454305811557 : True := trivial
theorem tw8245835593584576677 : True := trivial
theorem tw1930014938923297989 : True := trivial
theorem tw1065859313180968293 : True := trivial
theorem tw12835517597414878597 : True := trivial
theorem tw15402639995477250501 : True := trivial
theorem tw11778053013962827237 : True := trivial
theorem tw2104670331250772549 : True := trivial
theorem tw12709325128920696485 : True := trivial
theorem tw8403341430606088901 : True := trivial
theorem tw8001939934121031397 : True := trivial
theorem tw17540028978723831557 : True := trivial
theorem tw8694817495347007269 : True := trivial
theorem tw14570410365003860805 : True := trivial
theorem tw952269437571882885 : True := trivial
theorem tw10609707947243720710 : True := trivial
theorem tw7593413101982428198 : True := trivial
theorem tw2032648854763201638 : True := trivial
theorem tw10349747090104331430 : True := trivial
theorem tw15646972612267657414 : True := trivial
theorem tw1862684202887587046 : True := trivial
theorem tw10591426723220669734 : True := trivial
theorem tw14994330425545258310 : True := trivial
theorem tw16966636600703828326 : True := trivial
theorem tw11600674679802287462 : True := trivial
theorem tw17825426230917361094 : True := trivial
theorem tw15100094316592136710 : True := trivial
theorem tw10553198260368081446 : True := trivial
theorem tw6104046881826147878 : True := trivial
theorem tw16338783219182881382 : True := trivial
theorem tw9163932260283396934 : True := trivial
theorem tw10158288032976838502 : True := trivial
theorem tw18200441529578471270 : True := trivial
theorem tw14091274013566266246 : True := trivial
theorem tw4793764705471344582 : True := trivial
theorem tw11541242227452254182 : True := trivial
theorem tw9672512795771976678 : True := trivial
theorem tw4273934554433259527 : True := trivial
theorem tw7872398495622596615 : True := trivial
theorem tw14050557863828452359 : True := trivial
theorem tw17666355135679669287 : True := trivial
theorem tw9402113271463712903 : True := trivial
theorem tw6424714225368681607 : True := trivial
theorem tw3117082910405677191 : True := trivial
theorem tw10238003228192998695 : True := trivial
theorem tw17758078925000762759 : True := trivial
theorem tw13428242270644277735 : True := trivial
theorem tw10208896722693132807 : True := trivial
theorem tw14727936431013507623 : True := trivial
theorem tw1426745056949503559 : True := trivial
theorem tw4045636129856920135 : True := trivial
theorem tw15337898892677790279 : True := trivial
theorem tw6444650057471891111 : True := trivial
theorem tw12596110234168127175 : True := trivial
theorem tw16798796759513249511 : True := trivial
theorem tw11446569983769734887 : True := trivial
theorem tw11396984176807425799 : True := trivial
theorem tw3495252593068813095 : True := trivial
theorem tw14103179993357579047 : True := trivial
theorem tw12500169498652013351 : True := trivial
theorem tw5725427487674697575 : True := trivial
theorem tw1240592069485824871 : True := trivial
theorem tw18040788162427730823 : True := trivial
theorem tw895814344257262471 : True := trivial
theorem tw2861529924945602503 : True := trivial
theorem tw10335338170268143624 : True := trivial
theorem tw3763233533608403112 : True := trivial
theorem tw5874256744068502696 : True := trivial
theorem tw13052413325344231688 : True := trivial
theorem tw5722759955031557512 : True := trivial
theorem tw9186543800760765832 : True := trivial
theorem tw16459104714232053160 : True := trivial
theorem tw12687499819185312200 : True := trivial
theorem tw18139605059562066408 : True := trivial
theorem tw2240225242673239688 : True := trivial
theorem tw2104908808282025640 : True := trivial
theorem tw16018779433807080104 : True := trivial
theorem tw2930124957005850665 : True := trivial
theorem tw10972932807210458185 : True := trivial
theorem tw10825598477734539337 : True := trivial
theorem tw15041714397781474473 : True := trivial
theorem tw7125407826875179273 : True := trivial
theorem tw6021819917430997289 : True := trivial
theorem tw5200177516762998089 : True := trivial
theorem tw13365344390711747081 : True := trivial
theorem tw3607164297456263881 : True := trivial
theorem tw15029717167531045609 : True := trivial
theorem tw12541997384600142601 : True := trivial
theorem tw14682149824341298985 : True := trivial
theorem tw2624054763648493513 : True := trivial
theorem tw3778298271924256778 : True := trivial
theorem tw8489723881108864010 : True := trivial
theorem tw11730938422842896426 : True := trivial
theorem tw13509404569627182122 : True := trivial
theorem tw16708495393044650122 : True := trivial
theorem tw5315068495682751658 : True := trivial
theorem tw2602607264477243658 : True := trivial
theorem tw3682695637173857578 : True := trivial
theorem tw11930305759834171754 : True := trivial
theorem tw4736492333010388394 : True := trivial
theorem tw27254892253154730 : True := trivial
theorem tw486646615425495466 : True := trivial
theorem tw11353519307626241610 : True := trivial
theorem tw6905402576848782986 : True := trivial
theorem tw8401409940703532746 : True := trivial
theorem tw3243135829492300586 : True := trivial
theorem tw1983223674147738474 : True := trivial
theorem tw9380247531072255850 : True := trivial
theorem tw6738120906443794346 : True := trivial
theorem tw7801412056407657386 : True := trivial
theorem tw2488306509051049962 : True := trivial
theorem tw17229423624388919307 : True := trivial
theorem tw407888536873861163 : True := trivial
theorem tw4342162665077569579 : True := trivial
theorem tw8240463750165738635 : True := trivial
theorem tw837473775670413451 : True := trivial
theorem tw12218627351075519723 : True := trivial
theorem tw17321687427611399467 : True := trivial
theorem tw12659652509338002827 : True := trivial
theorem tw18102348379673603531 : True := trivial
theorem tw10061194616554445323 : True := trivial
theorem tw7110700740478454315 : True := trivial
theorem tw15879148415119047243 : True := trivial
theorem tw7007887169709303403 : True := trivial
theorem tw1936440409026589611 : True := trivial
theorem tw7716624457227863180 : True := trivial
theorem tw2216436300903299212 : True := trivial
theorem tw6742247559393178764 : True := trivial
theorem tw17730377133679210668 : True := trivial
theorem tw16740155800389888204 : True := trivial
theorem tw4553992578258584812 : True := trivial
theorem tw524101940945484012 : True := trivial
theorem tw17757286071763031340 : True := trivial
theorem tw10611270815023657292 : True := trivial
theorem tw11913752415202347436 : True := trivial
theorem tw5507715022071263724 : True := trivial
theorem tw3431192773589894700 : True := trivial
theorem tw5787336015714930284 : True := trivial
theorem tw15796466122277029516 : True := trivial
theorem tw9612131232778554028 : True := trivial
theorem tw17594054164362676908 : True := trivial
theorem tw11716729880939819852 : True := trivial
theorem tw10339506943762316 : True := trivial
theorem tw500658769728102316 : True := trivial
theorem tw406374812466496492 : True := trivial
theorem tw1624965773228822541 : True := trivial
theorem tw12157388634334266477 : True := trivial
theorem tw17228114908253026445 : True := trivial
theorem tw8761028459193200845 : True := trivial
theorem tw6218166801606723821 : True := trivial
theorem tw1749174933853802797 : True := trivial
theorem tw13659990944872446477 : True := trivial
theorem tw5076048032168374893 : True := trivial
theorem tw16112760667602036557 : True := trivial
theorem tw13167382640226585485 : True := trivial
theorem tw10093025878972070829 : True := trivial
theorem tw5263087030158936013 : True := trivial
theorem tw15811843762143141934 : True := trivial
theorem tw14803761834409690190 : True := trivial
theorem tw4643635737498664014 : True := trivial
theorem tw3043769615908438222 : True := trivial
theorem tw12206431518501607790 : True := trivial
theorem tw8569672563098937806 : True := trivial
theorem tw3123450898574577134 : True := trivial
theorem tw14939175545974295118 : True := trivial
theorem tw15457409941081402990 : True := trivial
theorem tw9504825276802358894 : True := trivial
theorem tw26505460240240334 : True := trivial
theorem tw15717205894127151822 : True := trivial
theorem tw13849015390574412558 : True := trivial
theorem tw14619824389137630030 : True := trivial
theorem tw2301530283566678894 : True := trivial
theorem tw8048426573549237166 : True := trivial
theorem tw15362183983304050767 : True := trivial
theorem tw1458487806302832719 : True := trivial
theorem tw18115692435804315727 : True := trivial
theorem tw6240194064463408303 : True := trivial
theorem tw5365195503982406831 : True := trivial
theorem tw13922801728492533967 : True := trivial
theorem tw8614276384787036463 : True := trivial
theorem tw18377973899763348847 : True := trivial
theorem tw7281791456998279567 : True := trivial
theorem tw14945240879471516143 : True := trivial
theorem tw3989433180305386031 : True := trivial
theorem tw1641484724856752719 : True := trivial
theorem tw6860162343560532559 : True := trivial
theorem tw11747094429650912879 : True := trivial
theorem tw4686520653985230447 : True := trivial
theorem tw11257506815182187183 : True := trivial
theorem tw16341117855278585551 : True := trivial
theorem tw572345393415138095 : True := trivial
theorem tw3809587864268108719 : True := trivial
theorem tw6953514006014452816 : True := trivial
theorem tw2166485026314429584 : True := trivial
theorem tw11460940448879820944 : True := trivial
theorem tw14700468612041183408 : True := trivial
theorem tw6092441627359143088 : True := trivial
theorem tw16902394084432416976 : True := trivial
theorem tw1318442962921768368 : True := trivial
theorem tw6458916605721290192 : True := trivial
theorem tw18142702477156555312 : True := trivial
theorem tw8049645662989907536 : True := trivial
theorem tw74153062380385936 : True := trivial
theorem tw14580820217171709648 : True := trivial
theorem tw6242339592087618256 : True := trivial
theorem tw17472998501388920560 : True := trivial
theorem tw12936534067054055184 : True := trivial
theorem tw7721027057212351280 : True := trivial
theorem tw15998835480407211920 : True := trivial
theorem tw14182214511567656944 : True := trivial
theorem tw16038114887668350001 : True := trivial
theorem tw17626126833313660977 : True := trivial
theorem tw5008679408339622993 : True := trivial
theorem tw3178241059654063249 : True := trivial
theorem tw10354365329700768017 : True := trivial
theorem tw14724602648167522641 : True := trivial
theorem tw12883204001570035089 : True := trivial
theorem tw2496779210443229617 : True := trivial
theorem tw4573040883591826897 : True := trivial
theorem tw16895788744258477553 : True := trivial
theorem tw11933623627554221585 : True := trivial
theorem tw6914264665206660657 : True := trivial
theorem tw5914475933195650609 : True := trivial
theorem tw3818081271240812113 : True := trivial
theorem tw11160328156455010929 : True := trivial
theorem tw15050758491968740017 : True := trivial
theorem tw7555614412172482353 : True := trivial
theorem tw5359051088536688433 : True := trivial
theorem tw3115219703289881425 : True := trivial
theorem tw11144371089513766865 : True := trivial
theorem tw3474034951630179313 : True := trivial
theorem tw5869318975325720658 : True := trivial
theorem tw6097520421695749202 : True := trivial
theorem tw3110848913880547442 : True := trivial
theorem tw11174103480658482290 : True := trivial
theorem tw5935996619199167666 : True := trivial
theorem tw10131394890940308754 : True := trivial
theorem tw10215836310394854706 : True := trivial
theorem tw2727975530429515090 : True := trivial
theorem tw2357899747816568178 : True := trivial
theorem tw8692361294919162258 : True := trivial
theorem tw8272698510119830034 : True := trivial
theorem tw7791866605030414866 : True := trivial
theorem tw6349896929307023954 : True := trivial
theorem tw4716949833806388850 : True := trivial
theorem tw12288671571087258226 : True := trivial
theorem tw6056718077039836786 : True := trivial
theorem tw15136116684473904882 : True := trivial
theorem tw10849872277004993298 : True := trivial
theorem tw2259496182522525554 : True := trivial
theorem tw16713557010004650898 : True := trivial
theorem tw16648753052528536498 : True := trivial
theorem tw13773485764215262162 : True := trivial
theorem tw18300150823797709778 : True := trivial
theorem tw18197663480176311250 : True := trivial
theorem tw16164729438458328083 : True := trivial
theorem tw15447980576443250803 : True := trivial
theorem tw9121258364633386227 : True := trivial
theorem tw12197370054219948307 : True := trivial
theorem tw5325705518056699155 : True := trivial
theorem tw18255705891129647411 : True := trivial
theorem tw8253427275636325811 : True := trivial
theorem tw14390009932479619539 : True := trivial
theorem tw4883279510012630579 : True := trivial
theorem tw9481751261911817779 : True := trivial
theorem tw8747719673891575347 : True := trivial
theorem tw4665174794074794579 : True := trivial
theorem tw6175798877873093235 : True := trivial
theorem tw5982728189799590547 : True := trivial
theorem tw17478067506274796211 : True := trivial
theorem tw16435046822453899955 : True := trivial
theorem tw13687127167227964211 : True := trivial
theorem tw2055904876498576211 : True := trivial
theorem tw5593292744143054739 : True := trivial
theorem tw11022899730656452724 : True := trivial
theorem tw7204703257704709268 : True := trivial
theorem tw5967542316271939828 : True := trivial
theorem tw11277764043414721812 : True := trivial
theorem tw12488354906126866740 : True := trivial
theorem tw7069208393267792308 : True := trivial
theorem tw624142355474577844 : True := trivial
theorem tw15524354091315472980 : True := trivial
theorem tw3467569452975771220 : True := trivial
theorem tw16065079108010080884 : True := trivial
theorem tw5779692449822176948 : True := trivial
theorem tw5797448543248796532 : True := trivial
theorem tw5959453834229041108 : True := trivial
theorem tw11709345520476108853 : True := trivial
theorem tw6444196900790854741 : True := trivial
theorem tw6623727843057599701 : True := trivial
theorem tw8696173498402146517 : True := trivial
theorem tw4375349649749230901 : True := trivial
theorem tw14346583505169199605 : True := trivial
theorem tw14415066316073317909 : True := trivial
theorem tw6805123074469754421 : True := trivial
theorem tw14456616312713694805 : True := trivial
theorem tw6276580426602099381 : True := trivial
theorem tw4188644197364733877 : True := trivial
theorem tw8252458054486401973 : True := trivial
theorem tw15806117461900115990 : True := trivial
theorem tw3123514189833030678 : True := trivial
theorem tw10667670537172897974 : True := trivial
theorem tw1294806767457043702 : True := trivial
theorem tw737590964463766806 : True := trivial
theorem tw13417123421481000310 : True := trivial
theorem tw13092170216748780950 : True := trivial
theorem tw8850251511982385622 : True := trivial
theorem tw9305076644529890870 : True := trivial
theorem tw11902023520245179030 : True := trivial
theorem tw7893472211282592438 : True := trivial
theorem tw5088974981001104054 : True := trivial
theorem tw14740840365564565270 : True := trivial
theorem tw5022394274970770230 : True := trivial
theorem tw7662859266319862614 : True := trivial
theorem tw17818308158140547958 : True := trivial
theorem tw10125783697286990742 : True := trivial
theorem tw6284114041619419191 : True := trivial
theorem tw15746138599069945911 : True := trivial
theorem tw3572048385041787031 : True := trivial
theorem tw9046596188175750391 : True := trivial
theorem tw16404769456619654551 : True := trivial
theorem tw8548142698795457175 : True := trivial
theorem tw6160837306643664599 : True := trivial
theorem tw1101026498512211767 : True := trivial
theorem tw12027007771495649143 : True := trivial
theorem tw2710637568012659607 : True := trivial
theorem tw10506436710968830935 : True := trivial
theorem tw6556647646579069943 : True := trivial
theorem tw17324765285455102136 : True := trivial
theorem tw13376504322601125112 : True := trivial
theorem tw6969344433779007736 : True := trivial
theorem tw5284053425626805496 : True := trivial
theorem tw17497909727057907992 : True := trivial
theorem tw6046953628714229016 : True := trivial
theorem tw4583227666541386136 : True := trivial
theorem tw2282810531501909400 : True := trivial
theorem tw16188501047384223320 : True := trivial
theorem tw15974108157207360088 : True := trivial
theorem tw5495383018044584568 : True := trivial
theorem tw4994747301979601688 : True := trivial
theorem tw15130726463244209976 : True := trivial
theorem tw9970076787906515800 : True := trivial
theorem tw3315022257532213208 : True := trivial
theorem tw13256593704647293944 : True := trivial
theorem tw17261080354614914073 : True := trivial
theorem tw6099137339146769497 : True := trivial
theorem tw5134966080065781881 : True := trivial
theorem tw2045433014211067065 : True := trivial
theorem tw18131815251260535033 : True := trivial
theorem tw10924921469992843673 : True := trivial
theorem tw5678192512242385369 : True := trivial
theorem tw11772806551355820505 : True := trivial
theorem tw5353292379964363321 : True := trivial
theorem tw6856949711199874649 : True := trivial
theorem tw15630019623275355737 : True := trivial
theorem tw2100156434052569849 : True := trivial
theorem tw2192017405412899641 : True := trivial
theorem tw4360207349001115545 : True := trivial
theorem tw2189811750729083801 : True := trivial
theorem tw17462007600798898137 : True := trivial
theorem tw12805261758359519193 : True := trivial
theorem tw7259695625557743642 : True := trivial
theorem tw1513168676905014330 : True := trivial
theorem tw106434550551880794 : True := trivial
theorem tw10464652594417391898 : True := trivial
theorem tw8876235943176743226 : True := trivial
theorem tw17748672620688455034 : True := trivial
theorem tw14010787898625310074 : True := trivial
theorem tw4449346612735857210 : True := trivial
theorem tw3734313559661218394 : True := trivial
theorem tw5537771277900429946 : True := trivial
theorem tw14349753884506997530 : True := trivial
theorem tw9143819428634485594 : True := trivial
theorem tw13694290039733740474 : True := trivial
theorem tw7336256320650462202 : True := trivial
theorem tw13352066017094989915 : True := trivial
theorem tw14344645895998930011 : True := trivial
theorem tw12897475729107161307 : True := trivial
theorem tw5392250760160215323 : True := trivial
theorem tw3722253127744449819 : True := trivial
theorem tw13959444885618659643 : True := trivial
theorem tw17461981347984645435 : True := trivial
theorem tw18392581361015308667 : True := trivial
theorem tw11763224312695015803 : True := trivial
theorem tw12954030122340533659 : True := trivial
theorem tw14586105809475781083 : True := trivial
theorem tw17195175847192671739 : True := trivial
theorem tw18181663183261672987 : True := trivial
theorem tw10675908100945089115 : True := trivial
theorem tw7748772049987709595 : True := trivial
theorem tw6293946926183971483 : True := trivial
theorem tw8303559669934882523 : True := trivial
theorem tw15965869030326816507 : True := trivial
theorem tw16409992136260447003 : True := trivial
theorem tw7571883333338761019 : True := trivial
theorem tw13590238820781092731 : True := trivial
theorem tw18103359468454888443 : True := trivial
theorem tw3338793529844502556 : True := trivial
theorem tw3762813579589009468 : True := trivial
theorem tw8970438506819549244 : True := trivial
theorem tw3444932963820331132 : True := trivial
theorem tw5751070007240593596 : True := trivial
theorem tw5849531212526879964 : True := trivial
theorem tw5823054548061736156 : True := trivial
theorem tw10084050291125070076 : True := trivial
theorem tw4171056303483693372 : True := trivial
theorem tw7906240573290794332 : True := trivial
theorem tw6763291747225374108 : True := trivial
theorem tw5536935457296183740 : True := trivial
theorem tw18382553896964789788 : True := trivial
theorem tw3037301524586284700 : True := trivial
theorem tw1722503489126195868 : True := trivial
theorem tw11058113163212945116 : True := trivial
theorem tw5316019916866186044 : True := trivial
theorem tw6971087178572653404 : True := trivial
theorem tw16323452867681897404 : True := trivial
theorem tw11952381291885198332 : True := trivial
theorem tw8006872794019955741 : True := trivial
theorem tw3008553752749491229 : True := trivial
theorem tw6985896588365382717 : True := trivial
theorem tw12327141920719327325 : True := trivial
theorem tw2085042937996009629 : True := trivial
theorem tw6645559497711869245 : True := trivial
theorem tw5874429802571385309 : True := trivial
theorem tw7535201756972157437 : True := trivial
theorem tw16587826172016345789 : True := trivial
theorem tw12707269878892489405 : True := trivial
theorem tw11913799191216459517 : True := trivial
theorem tw2130931357948875517 : True := trivial
theorem tw7211079740173893469 : True := trivial
theorem tw4846894295921169309 : True := trivial
theorem tw5569877310437078973 : True := trivial
theorem tw9357171656647951454 : True := trivial
theorem tw11574695931096491134 : True := trivial
theorem tw5537597509700895902 : True := trivial
theorem tw9402069369810757854 : True := trivial
theorem tw13617709648798044510 : True := trivial
theorem tw9297149532405751166 : True := trivial
theorem tw14134717741157379454 : True := trivial
theorem tw11469083297791904158 : True := trivial
theorem tw54489661269284350 : True := trivial
theorem tw2983368847663243774 : True := trivial
theorem tw18303687901225260574 : True := trivial
theorem tw14566953317798475294 : True := trivial
theorem tw16360689773067325022 : True := trivial
theorem tw16824101242201486014 : True := trivial
theorem tw9845046231539952382 : True := trivial
theorem tw16416920128054053662 : True := trivial
theorem tw5000844811231185854 : True := trivial
theorem tw11301301740849735646 : True := trivial
theorem tw13275841398518545406 : True := trivial
theorem tw15303142080748055583 : True := trivial
theorem tw3904330025559426111 : True := trivial
theorem tw971312339732434015 : True := trivial
theorem tw12671495281351051359 : True := trivial
theorem tw14108215413476693119 : True := trivial
theorem tw15506021787439889727 : True := trivial
theorem tw6390778658716551551 : True := trivial
theorem tw636393096977975679 : True := trivial
theorem tw3114533404990858623 : True := trivial
theorem tw10472021753284174239 : True := trivial
theorem tw13362160085889452479 : True := trivial
theorem tw13923561749620400639 : True := trivial
theorem tw5200946307217402399 : True := trivial
theorem tw4418389213693469279 : True := trivial
theorem tw1384283990410805983 : True := trivial
theorem tw8947999383741713119 : True := trivial
theorem tw1937402893480252159 : True := trivial
theorem tw5904700244366250815 : True := trivial
theorem tw11668488592399055711 : True := trivial
theorem tw12935955536834513791 : True := trivial
theorem tw12001915445343234975 : True := trivial
theorem tw17131990014095915967 : True := trivial
theorem tw14693664116555294719 : True := trivial
theorem tw3989029124812634559 : True := trivial
end PySem.W.Fast
section
set_option Elab.async false
set_option linter.all false
set_option maxRecDepth 100000
set_option maxHeartbeats 0
namespace Mr
open PySem PySem.W PyProof.Rows
local macro_rules | `(tactic| k_head) => `(tactic| k_headS)
local macro_rules | `(tactic| o_law) => `(tactic| skip)
local macro_rules | `(tactic| w_witness2) => `(tactic| exact ⟨[.list [.int 0]], by decide +kernel, by decide +kernel⟩)
open_top topHead for PySem.Challenge.rw_markreader_s01_answers
end Mr
end
section
set_option Elab.async false
set_option linter.all false
set_option maxRecDepth 100000
namespace L2
open PySem PySem.Spec PyProof.Rows
def inClass (s : Stmt) (j : Nat) : Stmt := match s with
  | .ClassDef _ _ _ body _ _ _ _ _ _ _ => body.getD j (.Pass ⟨0, 0, 0, 0⟩)
  | _ => .Pass ⟨0, 0, 0, 0⟩
def defArgs (s : Stmt) : Arguments := match s with
  | .FunctionDef _ a _ _ _ _ _ _ _ _ => a
  | _ => { posonlyargs := [], args := [], vararg := none, kwonlyargs := [], kw_defaults := [], kwarg := none, defaults := [] }
def defBody (s : Stmt) : List Stmt := match s with
  | .FunctionDef _ _ b _ _ _ _ _ _ _ => b
  | _ => []
def defScope (s : Stmt) : Scope := match s with
  | .FunctionDef _ _ _ _ _ _ sc _ _ _ => sc
  | _ => { kind := .function, names := [], isGenerator := false, isCoroutine := false }
end L2
namespace Mr
open PySem PySem.Spec PyProof.Rows L2
def top (i : Nat) : Stmt := PySem.Challenge.pw_markreader_s01_answers.main.body.getD i (.Pass ⟨0, 0, 0, 0⟩)
abbrev s_is_sign : Stmt := top 42
abbrev s_is_mark : Stmt := top 43
abbrev s_is_blank : Stmt := top 44
abbrev s_is_small_letter : Stmt := top 45
abbrev s_is_large_letter : Stmt := top 46
abbrev s_is_digit : Stmt := top 47
abbrev s_is_name_sign : Stmt := top 48
abbrev s_is_body_sign : Stmt := top 49
abbrev s_is_bare_sign : Stmt := top 50
abbrev s_Token_init : Stmt := inClass (top 59) 0
abbrev s_Reader_init : Stmt := inClass (top 60) 0
abbrev s_Reader_renew : Stmt := inClass (top 60) 1
abbrev s_Reader_fail : Stmt := inClass (top 60) 2
abbrev s_Reader_add_token : Stmt := inClass (top 60) 3
abbrev s_Reader_end_run : Stmt := inClass (top 60) 4
abbrev s_Reader_end_attribute : Stmt := inClass (top 60) 5
abbrev s_Reader_add_open_tag : Stmt := inClass (top 60) 6
abbrev s_Reader_end_tag : Stmt := inClass (top 60) 7
abbrev s_Reader_end_open_tag : Stmt := inClass (top 60) 8
abbrev s_Reader_end_ended_tag : Stmt := inClass (top 60) 9
abbrev s_digit_value : Stmt := top 64
abbrev s_number_byte : Stmt := top 65
abbrev s_reference_byte : Stmt := top 66
abbrev s_read_in_text : Stmt := top 79
abbrev s_end_run_of_text : Stmt := top 80
abbrev s_read_in_reference : Stmt := top 81
abbrev s_end_reference : Stmt := top 82
abbrev s_read_behind_less : Stmt := top 83
abbrev s_add_to_name : Stmt := top 84
abbrev s_read_in_open_tag_name : Stmt := top 85
abbrev s_read_behind_part_of_tag : Stmt := top 86
abbrev s_read_behind_less_slash : Stmt := top 87
abbrev s_read_in_close_tag_name : Stmt := top 88
abbrev s_end_close_tag : Stmt := top 89
abbrev s_read_in_gap : Stmt := top 90
abbrev s_read_in_attribute_name : Stmt := top 91
abbrev s_read_behind_equals : Stmt := top 92
abbrev s_read_in_quotes : Stmt := top 93
abbrev s_read_in_apostrophes : Stmt := top 94
abbrev s_read_between : Stmt := top 95
abbrev s_read_in_bare_value : Stmt := top 96
abbrev s_read_behind_slash : Stmt := top 97
abbrev s_read_dash_ahead_of_comment : Stmt := top 98
abbrev s_read_in_comment : Stmt := top 99
abbrev s_read_behind_one_dash : Stmt := top 100
abbrev s_read_behind_two_dashes : Stmt := top 101
abbrev s_read_in_raw_text : Stmt := top 102
abbrev s_read_in_raw_text_behind_less : Stmt := top 103
abbrev s_read_in_raw_close_tag : Stmt := top 104
abbrev s_end_raw_element : Stmt := top 105
abbrev s_takes_marks : Stmt := top 107
abbrev s_read_sign : Stmt := top 108
abbrev s_read_signs : Stmt := top 109
abbrev s_read_end : Stmt := top 110
abbrev s_with_references : Stmt := top 113
abbrev s_write_run_of_text : Stmt := top 114
abbrev s_write_attribute : Stmt := top 115
abbrev s_write_open_tag : Stmt := top 116
abbrev s_write_close_tag : Stmt := top 117
abbrev s_write_comment : Stmt := top 118
abbrev s_write_raw_text : Stmt := top 119
abbrev s_write_tokens : Stmt := top 121
abbrev s_reads_no_more : Stmt := top 129
abbrev s_fault_now : Stmt := top 130
abbrev s_refusal_of : Stmt := top 131
abbrev s_with_length : Stmt := top 132
abbrev s_begin : Stmt := top 133
abbrev s_feed : Stmt := top 134
abbrev s_end : Stmt := top 135
abbrev s_fault : Stmt := top 136
abbrev s_tokens : Stmt := top 137
abbrev s_parts_of_open_tag : Stmt := top 138
abbrev s_token : Stmt := top 139
abbrev s_state : Stmt := top 140
abbrev s_marks : Stmt := top 141
abbrev s_written : Stmt := top 142
abbrev s_whole : Stmt := top 143
abbrev s_length_of_call : Stmt := top 147
abbrev s_answer_of : Stmt := top 148
abbrev s_answers : Stmt := top 149
structure Adr where
  C_Token : Addr
  C_Reader : Addr
  f_is_sign : Addr
  f_is_mark : Addr
  f_is_blank : Addr
  f_is_small_letter : Addr
  f_is_large_letter : Addr
  f_is_digit : Addr
  f_is_name_sign : Addr
  f_is_body_sign : Addr
  f_is_bare_sign : Addr
  f_Token_init : Addr
  f_Reader_init : Addr
  f_Reader_renew : Addr
  f_Reader_fail : Addr
  f_Reader_add_token : Addr
  f_Reader_end_run : Addr
  f_Reader_end_attribute : Addr
  f_Reader_add_open_tag : Addr
  f_Reader_end_tag : Addr
  f_Reader_end_open_tag : Addr
  f_Reader_end_ended_tag : Addr
  f_digit_value : Addr
  f_number_byte : Addr
  f_reference_byte : Addr
  f_read_in_text : Addr
  f_end_run_of_text : Addr
  f_read_in_reference : Addr
  f_end_reference : Addr
  f_read_behind_less : Addr
  f_add_to_name : Addr
  f_read_in_open_tag_name : Addr
  f_read_behind_part_of_tag : Addr
  f_read_behind_less_slash : Addr
  f_read_in_close_tag_name : Addr
  f_end_close_tag : Addr
  f_read_in_gap : Addr
  f_read_in_attribute_name : Addr
  f_read_behind_equals : Addr
  f_read_in_quotes : Addr
  f_read_in_apostrophes : Addr
  f_read_between : Addr
  f_read_in_bare_value : Addr
  f_read_behind_slash : Addr
  f_read_dash_ahead_of_comment : Addr
  f_read_in_comment : Addr
  f_read_behind_one_dash : Addr
  f_read_behind_two_dashes : Addr
  f_read_in_raw_text : Addr
  f_read_in_raw_text_behind_less : Addr
  f_read_in_raw_close_tag : Addr
  f_end_raw_element : Addr
  f_takes_marks : Addr
  f_read_sign : Addr
  f_read_signs : Addr
  f_read_end : Addr
  f_with_references : Addr
  f_write_run_of_text : Addr
  f_write_attribute : Addr
  f_write_open_tag : Addr
  f_write_close_tag : Addr
  f_write_comment : Addr
  f_write_raw_text : Addr
  f_write_tokens : Addr
  f_reads_no_more : Addr
  f_fault_now : Addr
  f_refusal_of : Addr
  f_with_length : Addr
  f_begin : Addr
  f_feed : Addr
  f_end : Addr
  f_fault : Addr
  f_tokens : Addr
  f_parts_of_open_tag : Addr
  f_token : Addr
  f_state : Addr
  f_marks : Addr
  f_written : Addr
  f_whole : Addr
  f_length_of_call : Addr
  f_answer_of : Addr
  f_answers : Addr
  t_BLANKS : Addr
  t_NOT_BARE : Addr
  t_CALC : Addr
  t_VERB : Addr
  d_NAMED_BYTES : Addr
  d_MODES_BEHIND_REFERENCE : Addr
  d_SPOTS : Addr
  d_STEPS : Addr
  d_REFERENCES : Addr
  r_34 : Addr
  r_38 : Addr
  r_60 : Addr
  d_WRITERS : Addr
  d_CALLS_ALONE : Addr
  d_CALLS_WITH_NUMBER : Addr
  d_CALLS_WITH_SIGNS : Addr
def B0 : Adr := { C_Token := 98, C_Reader := 182, f_is_sign := 23, f_is_mark := 30, f_is_blank := 37, f_is_small_letter := 44, f_is_large_letter := 51, f_is_digit := 58, f_is_name_sign := 65, f_is_body_sign := 72, f_is_bare_sign := 79, f_Token_init := 95, f_Reader_init := 116, f_Reader_renew := 123, f_Reader_fail := 130, f_Reader_add_token := 137, f_Reader_end_run := 144, f_Reader_end_attribute := 151, f_Reader_add_open_tag := 158, f_Reader_end_tag := 165, f_Reader_end_open_tag := 172, f_Reader_end_ended_tag := 179, f_digit_value := 199, f_number_byte := 206, f_reference_byte := 213, f_read_in_text := 222, f_end_run_of_text := 229, f_read_in_reference := 236, f_end_reference := 243, f_read_behind_less := 250, f_add_to_name := 257, f_read_in_open_tag_name := 264, f_read_behind_part_of_tag := 271, f_read_behind_less_slash := 278, f_read_in_close_tag_name := 285, f_end_close_tag := 292, f_read_in_gap := 299, f_read_in_attribute_name := 306, f_read_behind_equals := 313, f_read_in_quotes := 320, f_read_in_apostrophes := 327, f_read_between := 334, f_read_in_bare_value := 341, f_read_behind_slash := 348, f_read_dash_ahead_of_comment := 355, f_read_in_comment := 362, f_read_behind_one_dash := 369, f_read_behind_two_dashes := 376, f_read_in_raw_text := 383, f_read_in_raw_text_behind_less := 390, f_read_in_raw_close_tag := 397, f_end_raw_element := 404, f_takes_marks := 413, f_read_sign := 420, f_read_signs := 427, f_read_end := 434, f_with_references := 445, f_write_run_of_text := 452, f_write_attribute := 459, f_write_open_tag := 466, f_write_close_tag := 473, f_write_comment := 480, f_write_raw_text := 487, f_write_tokens := 495, f_reads_no_more := 502, f_fault_now := 509, f_refusal_of := 514, f_with_length := 521, f_begin := 528, f_feed := 535, f_end := 542, f_fault := 549, f_tokens := 556, f_parts_of_open_tag := 563, f_token := 570, f_state := 577, f_marks := 584, f_written := 591, f_whole := 598, f_length_of_call := 608, f_answer_of := 615, f_answers := 622, t_BLANKS := 15, t_NOT_BARE := 16, t_CALC := 80, t_VERB := 81, d_NAMED_BYTES := 187, d_MODES_BEHIND_REFERENCE := 214, d_SPOTS := 215, d_STEPS := 405, d_REFERENCES := 435, r_34 := 436, r_38 := 437, r_60 := 438, d_WRITERS := 488, d_CALLS_ALONE := 599, d_CALLS_WITH_NUMBER := 600, d_CALLS_WITH_SIGNS := 601 }
def RawF (K : PySem.W.Frag) (x qual : Str) (st : Stmt) (f : Addr) : Prop := ∃ (oc : Value) (od an : Option Addr) (osl : Array (Option Value)) (kV doc pm cdv ct : Value),
  K.lookup f = some ⟨oc, od, .func (PySem.W.fnOf x qual (defArgs st) (defBody st) (defScope st) .none kV doc pm an cdv ct), osl⟩ ∧ PySem.W.codeIn K cdv qual = true ∧ PySem.W.keepIn K (.ref f) = true
structure Raw (K : PySem.W.Frag) : Prop where
  n_len : PySem.W.nsIn K mainGlobals "len" = some none
  n_all : PySem.W.nsIn K mainGlobals "all" = some none
  n_list : PySem.W.nsIn K mainGlobals "list" = some none
  n_tuple : PySem.W.nsIn K mainGlobals "tuple" = some none
  c_TEXT : ∃ t, PySem.W.nsIn K mainGlobals "TEXT" = some (some (.int 0 t))
  c_REFERENCE_IN_TEXT : ∃ t, PySem.W.nsIn K mainGlobals "REFERENCE_IN_TEXT" = some (some (.int 1 t))
  c_REFERENCE_IN_QUOTES : ∃ t, PySem.W.nsIn K mainGlobals "REFERENCE_IN_QUOTES" = some (some (.int 2 t))
  c_REFERENCE_IN_APOSTROPHES : ∃ t, PySem.W.nsIn K mainGlobals "REFERENCE_IN_APOSTROPHES" = some (some (.int 3 t))
  c_REFERENCE_IN_BARE_VALUE : ∃ t, PySem.W.nsIn K mainGlobals "REFERENCE_IN_BARE_VALUE" = some (some (.int 4 t))
  c_BEHIND_LESS : ∃ t, PySem.W.nsIn K mainGlobals "BEHIND_LESS" = some (some (.int 5 t))
  c_OPEN_TAG_NAME : ∃ t, PySem.W.nsIn K mainGlobals "OPEN_TAG_NAME" = some (some (.int 6 t))
  c_BEHIND_LESS_SLASH : ∃ t, PySem.W.nsIn K mainGlobals "BEHIND_LESS_SLASH" = some (some (.int 7 t))
  c_CLOSE_TAG_NAME : ∃ t, PySem.W.nsIn K mainGlobals "CLOSE_TAG_NAME" = some (some (.int 8 t))
  c_GAP : ∃ t, PySem.W.nsIn K mainGlobals "GAP" = some (some (.int 9 t))
  c_ATTRIBUTE_NAME : ∃ t, PySem.W.nsIn K mainGlobals "ATTRIBUTE_NAME" = some (some (.int 10 t))
  c_BEHIND_EQUALS : ∃ t, PySem.W.nsIn K mainGlobals "BEHIND_EQUALS" = some (some (.int 11 t))
  c_VALUE_IN_QUOTES : ∃ t, PySem.W.nsIn K mainGlobals "VALUE_IN_QUOTES" = some (some (.int 12 t))
  c_VALUE_IN_APOSTROPHES : ∃ t, PySem.W.nsIn K mainGlobals "VALUE_IN_APOSTROPHES" = some (some (.int 13 t))
  c_BARE_VALUE : ∃ t, PySem.W.nsIn K mainGlobals "BARE_VALUE" = some (some (.int 14 t))
  c_BEHIND_VALUE : ∃ t, PySem.W.nsIn K mainGlobals "BEHIND_VALUE" = some (some (.int 15 t))
  c_BEHIND_SLASH : ∃ t, PySem.W.nsIn K mainGlobals "BEHIND_SLASH" = some (some (.int 16 t))
  c_BEHIND_LESS_EXCLAMATION : ∃ t, PySem.W.nsIn K mainGlobals "BEHIND_LESS_EXCLAMATION" = some (some (.int 17 t))
  c_BEHIND_FIRST_DASH : ∃ t, PySem.W.nsIn K mainGlobals "BEHIND_FIRST_DASH" = some (some (.int 18 t))
  c_COMMENT : ∃ t, PySem.W.nsIn K mainGlobals "COMMENT" = some (some (.int 19 t))
  c_COMMENT_ONE_DASH : ∃ t, PySem.W.nsIn K mainGlobals "COMMENT_ONE_DASH" = some (some (.int 20 t))
  c_COMMENT_TWO_DASHES : ∃ t, PySem.W.nsIn K mainGlobals "COMMENT_TWO_DASHES" = some (some (.int 21 t))
  c_RAW_TEXT : ∃ t, PySem.W.nsIn K mainGlobals "RAW_TEXT" = some (some (.int 22 t))
  c_RAW_BEHIND_LESS : ∃ t, PySem.W.nsIn K mainGlobals "RAW_BEHIND_LESS" = some (some (.int 23 t))
  c_RAW_CLOSE_TAG : ∃ t, PySem.W.nsIn K mainGlobals "RAW_CLOSE_TAG" = some (some (.int 24 t))
  c_ENDED : ∃ t, PySem.W.nsIn K mainGlobals "ENDED" = some (some (.int 25 t))
  c_FAULTY : ∃ t, PySem.W.nsIn K mainGlobals "FAULTY" = some (some (.int 26 t))
  c_SPACE : ∃ t, PySem.W.nsIn K mainGlobals "SPACE" = some (some (.int 32 t))
  c_EXCLAMATION : ∃ t, PySem.W.nsIn K mainGlobals "EXCLAMATION" = some (some (.int 33 t))
  c_QUOTE : ∃ t, PySem.W.nsIn K mainGlobals "QUOTE" = some (some (.int 34 t))
  c_NUMBER_SIGN : ∃ t, PySem.W.nsIn K mainGlobals "NUMBER_SIGN" = some (some (.int 35 t))
  c_AMPERSAND : ∃ t, PySem.W.nsIn K mainGlobals "AMPERSAND" = some (some (.int 38 t))
  c_APOSTROPHE : ∃ t, PySem.W.nsIn K mainGlobals "APOSTROPHE" = some (some (.int 39 t))
  c_DASH : ∃ t, PySem.W.nsIn K mainGlobals "DASH" = some (some (.int 45 t))
  c_SLASH : ∃ t, PySem.W.nsIn K mainGlobals "SLASH" = some (some (.int 47 t))
  c_SEMICOLON : ∃ t, PySem.W.nsIn K mainGlobals "SEMICOLON" = some (some (.int 59 t))
  c_LESS : ∃ t, PySem.W.nsIn K mainGlobals "LESS" = some (some (.int 60 t))
  c_EQUALS : ∃ t, PySem.W.nsIn K mainGlobals "EQUALS" = some (some (.int 61 t))
  c_GREATER : ∃ t, PySem.W.nsIn K mainGlobals "GREATER" = some (some (.int 62 t))
  c_RUN_OF_TEXT_TOKEN : ∃ t, PySem.W.nsIn K mainGlobals "RUN_OF_TEXT_TOKEN" = some (some (.int 0 t))
  c_OPEN_TAG_TOKEN : ∃ t, PySem.W.nsIn K mainGlobals "OPEN_TAG_TOKEN" = some (some (.int 1 t))
  c_CLOSE_TAG_TOKEN : ∃ t, PySem.W.nsIn K mainGlobals "CLOSE_TAG_TOKEN" = some (some (.int 2 t))
  c_COMMENT_TOKEN : ∃ t, PySem.W.nsIn K mainGlobals "COMMENT_TOKEN" = some (some (.int 3 t))
  c_RAW_TEXT_TOKEN : ∃ t, PySem.W.nsIn K mainGlobals "RAW_TEXT_TOKEN" = some (some (.int 4 t))
  c_NO_DIGIT : ∃ t, PySem.W.nsIn K mainGlobals "NO_DIGIT" = some (some (.int 16 t))
  c_WRONG_BYTE : ∃ t, PySem.W.nsIn K mainGlobals "WRONG_BYTE" = some (some (.int 1 t))
  c_LONG_NAME : ∃ t, PySem.W.nsIn K mainGlobals "LONG_NAME" = some (some (.int 2 t))
  c_SAME_ATTRIBUTE : ∃ t, PySem.W.nsIn K mainGlobals "SAME_ATTRIBUTE" = some (some (.int 3 t))
  c_NO_REFERENCE : ∃ t, PySem.W.nsIn K mainGlobals "NO_REFERENCE" = some (some (.int 4 t))
  c_WRONG_MARK : ∃ t, PySem.W.nsIn K mainGlobals "WRONG_MARK" = some (some (.int 5 t))
  c_WRONG_RAW_END : ∃ t, PySem.W.nsIn K mainGlobals "WRONG_RAW_END" = some (some (.int 6 t))
  c_EARLY_END : ∃ t, PySem.W.nsIn K mainGlobals "EARLY_END" = some (some (.int 7 t))
  c_LONGEST_NAME : ∃ t, PySem.W.nsIn K mainGlobals "LONGEST_NAME" = some (some (.int 32 t))
  c_LONGEST_BODY : ∃ t, PySem.W.nsIn K mainGlobals "LONGEST_BODY" = some (some (.int 4 t))
  c_MOST_SIGNS : ∃ t, PySem.W.nsIn K mainGlobals "MOST_SIGNS" = some (some (.int 16384 t))
  c_NOT_REFUSED : ∃ t, PySem.W.nsIn K mainGlobals "NOT_REFUSED" = some (some (.int 0 t))
  c_NO_SIGN : ∃ t, PySem.W.nsIn K mainGlobals "NO_SIGN" = some (some (.int (-1) t))
  c_NOTHING_READ_ANY_MORE : ∃ t, PySem.W.nsIn K mainGlobals "NOTHING_READ_ANY_MORE" = some (some (.int (-2) t))
  c_TOO_MANY_SIGNS : ∃ t, PySem.W.nsIn K mainGlobals "TOO_MANY_SIGNS" = some (some (.int (-3) t))
  c_NO_SUCH_TOKEN : ∃ t, PySem.W.nsIn K mainGlobals "NO_SUCH_TOKEN" = some (some (.int (-4) t))
  a_BLANKS : PySem.W.nsIn K mainGlobals "BLANKS" = some (some (.ref 15))
  t_BLANKS : ∃ n, K.lookup 15 = some { cls := .type "tuple", data := .seq (([(9, 267), (10, 268), (13, 269), (32, 270)] : List (Int × Tok)).map fun x => Value.int x.1 x.2).toArray n }
  a_NOT_BARE : PySem.W.nsIn K mainGlobals "NOT_BARE" = some (some (.ref 16))
  t_NOT_BARE : ∃ n, K.lookup 16 = some { cls := .type "tuple", data := .seq (([(34, 272), (38, 273), (39, 274), (60, 275), (61, 276), (62, 277), (96, 278)] : List (Int × Tok)).map fun x => Value.int x.1 x.2).toArray n }
  a_CALC : PySem.W.nsIn K mainGlobals "CALC" = some (some (.ref 80))
  t_CALC : ∃ n, K.lookup 80 = some { cls := .type "tuple", data := .seq (([(99, 355), (97, 356), (108, 357), (99, 358)] : List (Int × Tok)).map fun x => Value.int x.1 x.2).toArray n }
  a_VERB : PySem.W.nsIn K mainGlobals "VERB" = some (some (.ref 81))
  t_VERB : ∃ n, K.lookup 81 = some { cls := .type "tuple", data := .seq (([(118, 360), (101, 361), (114, 362), (98, 363)] : List (Int × Tok)).map fun x => Value.int x.1 x.2).toArray n }
  a_NAMED_BYTES : PySem.W.nsIn K mainGlobals "NAMED_BYTES" = some (some (.ref 187))
  d_NAMED_BYTES : ∃ ep, K.lookup 187 = some { cls := .type "dict", data := .dict ([⟨4773761836662839649, .ref 188, .int 38 516⟩, ⟨-1718784658242572702, .ref 189, .int 60 519⟩, ⟨4767798028956035058, .ref 190, .int 62 522⟩, ⟨6407754560328111152, .ref 191, .int 34 527⟩, ⟨6783043442459324222, .ref 192, .int 39 532⟩] : List DictEntry).toArray ep }
  k_188 : ∃ n, K.lookup 188 = some { cls := .type "tuple", data := .seq (([(97, 513), (109, 514), (112, 515)] : List (Int × Tok)).map fun x => Value.int x.1 x.2).toArray n }
  k_189 : ∃ n, K.lookup 189 = some { cls := .type "tuple", data := .seq (([(108, 517), (116, 518)] : List (Int × Tok)).map fun x => Value.int x.1 x.2).toArray n }
  k_190 : ∃ n, K.lookup 190 = some { cls := .type "tuple", data := .seq (([(103, 520), (116, 521)] : List (Int × Tok)).map fun x => Value.int x.1 x.2).toArray n }
  k_191 : ∃ n, K.lookup 191 = some { cls := .type "tuple", data := .seq (([(113, 523), (117, 524), (111, 525), (116, 526)] : List (Int × Tok)).map fun x => Value.int x.1 x.2).toArray n }
  k_192 : ∃ n, K.lookup 192 = some { cls := .type "tuple", data := .seq (([(97, 528), (112, 529), (111, 530), (115, 531)] : List (Int × Tok)).map fun x => Value.int x.1 x.2).toArray n }
  a_MODES_BEHIND_REFERENCE : PySem.W.nsIn K mainGlobals "MODES_BEHIND_REFERENCE" = some (some (.ref 214))
  d_MODES_BEHIND_REFERENCE : ∃ es ep, K.lookup 214 = some { cls := .type "dict", data := .dict es ep } ∧ es.toList = ([(1, 602, .int 0 603), (2, 604, .int 12 605), (3, 606, .int 13 607), (4, 608, .int 14 609)] : List (Int × Tok × Value)).map fun x => (⟨hashInt x.1, .int x.1 x.2.1, x.2.2⟩ : DictEntry)
  a_SPOTS : PySem.W.nsIn K mainGlobals "SPOTS" = some (some (.ref 215))
  d_SPOTS : ∃ es ep, K.lookup 215 = some { cls := .type "dict", data := .dict es ep } ∧ es.toList = ([(0, 615, .int 0 616), (11, 617, .int 4 618), (12, 619, .int 1 620), (13, 621, .int 2 622), (14, 623, .int 3 624), (22, 625, .int 5 626)] : List (Int × Tok × Value)).map fun x => (⟨hashInt x.1, .int x.1 x.2.1, x.2.2⟩ : DictEntry)
  a_STEPS : PySem.W.nsIn K mainGlobals "STEPS" = some (some (.ref 405))
  d_STEPS : ∃ es ep, K.lookup 405 = some { cls := .type "dict", data := .dict es ep } ∧ es.toList = ([(0, 852, .ref 222), (1, 854, .ref 236), (2, 856, .ref 236), (3, 858, .ref 236), (4, 860, .ref 236), (5, 862, .ref 250), (6, 864, .ref 264), (7, 866, .ref 278), (8, 868, .ref 285), (9, 870, .ref 299), (10, 872, .ref 306), (11, 874, .ref 313), (12, 876, .ref 320), (13, 878, .ref 327), (14, 880, .ref 341), (15, 882, .ref 271), (16, 884, .ref 348), (17, 886, .ref 355), (18, 887, .ref 355), (19, 888, .ref 362), (20, 889, .ref 369), (21, 890, .ref 376), (22, 891, .ref 383), (23, 892, .ref 390), (24, 893, .ref 397)] : List (Int × Tok × Value)).map fun x => (⟨hashInt x.1, .int x.1 x.2.1, x.2.2⟩ : DictEntry)
  a_REFERENCES : PySem.W.nsIn K mainGlobals "REFERENCES" = some (some (.ref 435))
  d_REFERENCES : ∃ es ep, K.lookup 435 = some { cls := .type "dict", data := .dict es ep } ∧ es.toList = ([(34, 937, .ref 436), (38, 944, .ref 437), (60, 950, .ref 438)] : List (Int × Tok × Value)).map fun x => (⟨hashInt x.1, .int x.1 x.2.1, x.2.2⟩ : DictEntry)
  t_r_34 : ∃ n, K.lookup 436 = some { cls := .type "tuple", data := .seq (([(38, 938), (113, 939), (117, 940), (111, 941), (116, 942), (59, 943)] : List (Int × Tok)).map fun x => Value.int x.1 x.2).toArray n }
  t_r_38 : ∃ n, K.lookup 437 = some { cls := .type "tuple", data := .seq (([(38, 945), (97, 946), (109, 947), (112, 948), (59, 949)] : List (Int × Tok)).map fun x => Value.int x.1 x.2).toArray n }
  t_r_60 : ∃ n, K.lookup 438 = some { cls := .type "tuple", data := .seq (([(38, 951), (108, 952), (116, 953), (59, 954)] : List (Int × Tok)).map fun x => Value.int x.1 x.2).toArray n }
  a_WRITERS : PySem.W.nsIn K mainGlobals "WRITERS" = some (some (.ref 488))
  d_WRITERS : ∃ es ep, K.lookup 488 = some { cls := .type "dict", data := .dict es ep } ∧ es.toList = ([(0, 1015, .ref 452), (1, 1016, .ref 466), (2, 1017, .ref 473), (3, 1018, .ref 480), (4, 1019, .ref 487)] : List (Int × Tok × Value)).map fun x => (⟨hashInt x.1, .int x.1 x.2.1, x.2.2⟩ : DictEntry)
  a_CALLS_ALONE : PySem.W.nsIn K mainGlobals "CALLS_ALONE" = some (some (.ref 599))
  d_CALLS_ALONE : ∃ es ep, K.lookup 599 = some { cls := .type "dict", data := .dict es ep } ∧ es.toList = ([(0, 1172, .ref 528), (2, 1173, .ref 542), (3, 1174, .ref 549), (4, 1175, .ref 556), (6, 1176, .ref 577), (7, 1177, .ref 584), (8, 1178, .ref 591)] : List (Int × Tok × Value)).map fun x => (⟨hashInt x.1, .int x.1 x.2.1, x.2.2⟩ : DictEntry)
  a_CALLS_WITH_NUMBER : PySem.W.nsIn K mainGlobals "CALLS_WITH_NUMBER" = some (some (.ref 600))
  d_CALLS_WITH_NUMBER : ∃ es ep, K.lookup 600 = some { cls := .type "dict", data := .dict es ep } ∧ es.toList = ([(5, 1187, .ref 570)] : List (Int × Tok × Value)).map fun x => (⟨hashInt x.1, .int x.1 x.2.1, x.2.2⟩ : DictEntry)
  a_CALLS_WITH_SIGNS : PySem.W.nsIn K mainGlobals "CALLS_WITH_SIGNS" = some (some (.ref 601))
  d_CALLS_WITH_SIGNS : ∃ es ep, K.lookup 601 = some { cls := .type "dict", data := .dict es ep } ∧ es.toList = ([(1, 1190, .ref 535), (9, 1191, .ref 598)] : List (Int × Tok × Value)).map fun x => (⟨hashInt x.1, .int x.1 x.2.1, x.2.2⟩ : DictEntry)
  g_Token : PySem.W.nsIn K mainGlobals "Token" = some (some (.ref 98))
  cl_Token : PySem.W.plainGet K 98 Str.empty = true ∧ PySem.W.hasDictIn K 98 = true ∧ PySem.W.plainOver K 98 = true ∧ PySem.W.findIn K (.ref 98) "__setattr__" = some (some (.builtin "object.__setattr__"))
  mk_Token : PySem.W.makesIn K 98 = true ∧ PySem.W.findIn K (.ref 98) "__init__" = some (some (.ref 95)) ∧ PySem.W.isFn K (.ref 95) = true ∧ PySem.W.keepIn K (.ref 98) = true
  g_Reader : PySem.W.nsIn K mainGlobals "Reader" = some (some (.ref 182))
  cl_Reader : PySem.W.plainGet K 182 Str.empty = true ∧ PySem.W.hasDictIn K 182 = true ∧ PySem.W.plainOver K 182 = true ∧ PySem.W.findIn K (.ref 182) "__setattr__" = some (some (.builtin "object.__setattr__"))
  mk_Reader : PySem.W.makesIn K 182 = true ∧ PySem.W.findIn K (.ref 182) "__init__" = some (some (.ref 116)) ∧ PySem.W.isFn K (.ref 116) = true ∧ PySem.W.keepIn K (.ref 182) = true
  at_kind : PySem.W.findIn K (.ref 98) "kind" = some none
  at_place : PySem.W.findIn K (.ref 98) "place" = some none
  at_signs : PySem.W.findIn K (.ref 98) "signs" = some none
  at_attributes : PySem.W.findIn K (.ref 98) "attributes" = some none
  at_ended : PySem.W.findIn K (.ref 98) "ended" = some none
  ar_mode : PySem.W.findIn K (.ref 182) "mode" = some none
  ar_read_count : PySem.W.findIn K (.ref 182) "read_count" = some none
  ar_fault_kind : PySem.W.findIn K (.ref 182) "fault_kind" = some none
  ar_fault_place : PySem.W.findIn K (.ref 182) "fault_place" = some none
  ar_tokens : PySem.W.findIn K (.ref 182) "tokens" = some none
  ar_token_place : PySem.W.findIn K (.ref 182) "token_place" = some none
  ar_tag_name : PySem.W.findIn K (.ref 182) "tag_name" = some none
  ar_attributes : PySem.W.findIn K (.ref 182) "attributes" = some none
  ar_attribute_name : PySem.W.findIn K (.ref 182) "attribute_name" = some none
  ar_body : PySem.W.findIn K (.ref 182) "body" = some none
  ar_run : PySem.W.findIn K (.ref 182) "run" = some none
  ar_marks : PySem.W.findIn K (.ref 182) "marks" = some none
  f_is_sign : (PySem.W.nsIn K mainGlobals "is_sign" = some (some (.ref 23))) ∧ RawF K "is_sign" "is_sign" s_is_sign 23
  f_is_mark : (PySem.W.nsIn K mainGlobals "is_mark" = some (some (.ref 30))) ∧ RawF K "is_mark" "is_mark" s_is_mark 30
  f_is_blank : (PySem.W.nsIn K mainGlobals "is_blank" = some (some (.ref 37))) ∧ RawF K "is_blank" "is_blank" s_is_blank 37
  f_is_small_letter : (PySem.W.nsIn K mainGlobals "is_small_letter" = some (some (.ref 44))) ∧ RawF K "is_small_letter" "is_small_letter" s_is_small_letter 44
  f_is_large_letter : (PySem.W.nsIn K mainGlobals "is_large_letter" = some (some (.ref 51))) ∧ RawF K "is_large_letter" "is_large_letter" s_is_large_letter 51
  f_is_digit : (PySem.W.nsIn K mainGlobals "is_digit" = some (some (.ref 58))) ∧ RawF K "is_digit" "is_digit" s_is_digit 58
  f_is_name_sign : (PySem.W.nsIn K mainGlobals "is_name_sign" = some (some (.ref 65))) ∧ RawF K "is_name_sign" "is_name_sign" s_is_name_sign 65
  f_is_body_sign : (PySem.W.nsIn K mainGlobals "is_body_sign" = some (some (.ref 72))) ∧ RawF K "is_body_sign" "is_body_sign" s_is_body_sign 72
  f_is_bare_sign : (PySem.W.nsIn K mainGlobals "is_bare_sign" = some (some (.ref 79))) ∧ RawF K "is_bare_sign" "is_bare_sign" s_is_bare_sign 79
  f_Token_init : (True) ∧ RawF K "__init__" "Token.__init__" s_Token_init 95
  f_Reader_init : (True) ∧ RawF K "__init__" "Reader.__init__" s_Reader_init 116
  f_Reader_renew : (PySem.W.findIn K (.ref 182) "renew" = some (some (.ref 123)) ∧ PySem.W.isFn K (.ref 123) = true) ∧ RawF K "renew" "Reader.renew" s_Reader_renew 123
  f_Reader_fail : (PySem.W.findIn K (.ref 182) "fail" = some (some (.ref 130)) ∧ PySem.W.isFn K (.ref 130) = true) ∧ RawF K "fail" "Reader.fail" s_Reader_fail 130
  f_Reader_add_token : (PySem.W.findIn K (.ref 182) "add_token" = some (some (.ref 137)) ∧ PySem.W.isFn K (.ref 137) = true) ∧ RawF K "add_token" "Reader.add_token" s_Reader_add_token 137
  f_Reader_end_run : (PySem.W.findIn K (.ref 182) "end_run" = some (some (.ref 144)) ∧ PySem.W.isFn K (.ref 144) = true) ∧ RawF K "end_run" "Reader.end_run" s_Reader_end_run 144
  f_Reader_end_attribute : (PySem.W.findIn K (.ref 182) "end_attribute" = some (some (.ref 151)) ∧ PySem.W.isFn K (.ref 151) = true) ∧ RawF K "end_attribute" "Reader.end_attribute" s_Reader_end_attribute 151
  f_Reader_add_open_tag : (PySem.W.findIn K (.ref 182) "add_open_tag" = some (some (.ref 158)) ∧ PySem.W.isFn K (.ref 158) = true) ∧ RawF K "add_open_tag" "Reader.add_open_tag" s_Reader_add_open_tag 158
  f_Reader_end_tag : (PySem.W.findIn K (.ref 182) "end_tag" = some (some (.ref 165)) ∧ PySem.W.isFn K (.ref 165) = true) ∧ RawF K "end_tag" "Reader.end_tag" s_Reader_end_tag 165
  f_Reader_end_open_tag : (PySem.W.findIn K (.ref 182) "end_open_tag" = some (some (.ref 172)) ∧ PySem.W.isFn K (.ref 172) = true) ∧ RawF K "end_open_tag" "Reader.end_open_tag" s_Reader_end_open_tag 172
  f_Reader_end_ended_tag : (PySem.W.findIn K (.ref 182) "end_ended_tag" = some (some (.ref 179)) ∧ PySem.W.isFn K (.ref 179) = true) ∧ RawF K "end_ended_tag" "Reader.end_ended_tag" s_Reader_end_ended_tag 179
  f_digit_value : (PySem.W.nsIn K mainGlobals "digit_value" = some (some (.ref 199))) ∧ RawF K "digit_value" "digit_value" s_digit_value 199
  f_number_byte : (PySem.W.nsIn K mainGlobals "number_byte" = some (some (.ref 206))) ∧ RawF K "number_byte" "number_byte" s_number_byte 206
  f_reference_byte : (PySem.W.nsIn K mainGlobals "reference_byte" = some (some (.ref 213))) ∧ RawF K "reference_byte" "reference_byte" s_reference_byte 213
  f_read_in_text : (PySem.W.nsIn K mainGlobals "read_in_text" = some (some (.ref 222))) ∧ RawF K "read_in_text" "read_in_text" s_read_in_text 222
  f_end_run_of_text : (PySem.W.nsIn K mainGlobals "end_run_of_text" = some (some (.ref 229))) ∧ RawF K "end_run_of_text" "end_run_of_text" s_end_run_of_text 229
  f_read_in_reference : (PySem.W.nsIn K mainGlobals "read_in_reference" = some (some (.ref 236))) ∧ RawF K "read_in_reference" "read_in_reference" s_read_in_reference 236
  f_end_reference : (PySem.W.nsIn K mainGlobals "end_reference" = some (some (.ref 243))) ∧ RawF K "end_reference" "end_reference" s_end_reference 243
  f_read_behind_less : (PySem.W.nsIn K mainGlobals "read_behind_less" = some (some (.ref 250))) ∧ RawF K "read_behind_less" "read_behind_less" s_read_behind_less 250
  f_add_to_name : (PySem.W.nsIn K mainGlobals "add_to_name" = some (some (.ref 257))) ∧ RawF K "add_to_name" "add_to_name" s_add_to_name 257
  f_read_in_open_tag_name : (PySem.W.nsIn K mainGlobals "read_in_open_tag_name" = some (some (.ref 264))) ∧ RawF K "read_in_open_tag_name" "read_in_open_tag_name" s_read_in_open_tag_name 264
  f_read_behind_part_of_tag : (PySem.W.nsIn K mainGlobals "read_behind_part_of_tag" = some (some (.ref 271))) ∧ RawF K "read_behind_part_of_tag" "read_behind_part_of_tag" s_read_behind_part_of_tag 271
  f_read_behind_less_slash : (PySem.W.nsIn K mainGlobals "read_behind_less_slash" = some (some (.ref 278))) ∧ RawF K "read_behind_less_slash" "read_behind_less_slash" s_read_behind_less_slash 278
  f_read_in_close_tag_name : (PySem.W.nsIn K mainGlobals "read_in_close_tag_name" = some (some (.ref 285))) ∧ RawF K "read_in_close_tag_name" "read_in_close_tag_name" s_read_in_close_tag_name 285
  f_end_close_tag : (PySem.W.nsIn K mainGlobals "end_close_tag" = some (some (.ref 292))) ∧ RawF K "end_close_tag" "end_close_tag" s_end_close_tag 292
  f_read_in_gap : (PySem.W.nsIn K mainGlobals "read_in_gap" = some (some (.ref 299))) ∧ RawF K "read_in_gap" "read_in_gap" s_read_in_gap 299
  f_read_in_attribute_name : (PySem.W.nsIn K mainGlobals "read_in_attribute_name" = some (some (.ref 306))) ∧ RawF K "read_in_attribute_name" "read_in_attribute_name" s_read_in_attribute_name 306
  f_read_behind_equals : (PySem.W.nsIn K mainGlobals "read_behind_equals" = some (some (.ref 313))) ∧ RawF K "read_behind_equals" "read_behind_equals" s_read_behind_equals 313
  f_read_in_quotes : (PySem.W.nsIn K mainGlobals "read_in_quotes" = some (some (.ref 320))) ∧ RawF K "read_in_quotes" "read_in_quotes" s_read_in_quotes 320
  f_read_in_apostrophes : (PySem.W.nsIn K mainGlobals "read_in_apostrophes" = some (some (.ref 327))) ∧ RawF K "read_in_apostrophes" "read_in_apostrophes" s_read_in_apostrophes 327
  f_read_between : (PySem.W.nsIn K mainGlobals "read_between" = some (some (.ref 334))) ∧ RawF K "read_between" "read_between" s_read_between 334
  f_read_in_bare_value : (PySem.W.nsIn K mainGlobals "read_in_bare_value" = some (some (.ref 341))) ∧ RawF K "read_in_bare_value" "read_in_bare_value" s_read_in_bare_value 341
  f_read_behind_slash : (PySem.W.nsIn K mainGlobals "read_behind_slash" = some (some (.ref 348))) ∧ RawF K "read_behind_slash" "read_behind_slash" s_read_behind_slash 348
  f_read_dash_ahead_of_comment : (PySem.W.nsIn K mainGlobals "read_dash_ahead_of_comment" = some (some (.ref 355))) ∧ RawF K "read_dash_ahead_of_comment" "read_dash_ahead_of_comment" s_read_dash_ahead_of_comment 355
  f_read_in_comment : (PySem.W.nsIn K mainGlobals "read_in_comment" = some (some (.ref 362))) ∧ RawF K "read_in_comment" "read_in_comment" s_read_in_comment 362
  f_read_behind_one_dash : (PySem.W.nsIn K mainGlobals "read_behind_one_dash" = some (some (.ref 369))) ∧ RawF K "read_behind_one_dash" "read_behind_one_dash" s_read_behind_one_dash 369
  f_read_behind_two_dashes : (PySem.W.nsIn K mainGlobals "read_behind_two_dashes" = some (some (.ref 376))) ∧ RawF K "read_behind_two_dashes" "read_behind_two_dashes" s_read_behind_two_dashes 376
  f_read_in_raw_text : (PySem.W.nsIn K mainGlobals "read_in_raw_text" = some (some (.ref 383))) ∧ RawF K "read_in_raw_text" "read_in_raw_text" s_read_in_raw_text 383
  f_read_in_raw_text_behind_less : (PySem.W.nsIn K mainGlobals "read_in_raw_text_behind_less" = some (some (.ref 390))) ∧ RawF K "read_in_raw_text_behind_less" "read_in_raw_text_behind_less" s_read_in_raw_text_behind_less 390
  f_read_in_raw_close_tag : (PySem.W.nsIn K mainGlobals "read_in_raw_close_tag" = some (some (.ref 397))) ∧ RawF K "read_in_raw_close_tag" "read_in_raw_close_tag" s_read_in_raw_close_tag 397
  f_end_raw_element : (PySem.W.nsIn K mainGlobals "end_raw_element" = some (some (.ref 404))) ∧ RawF K "end_raw_element" "end_raw_element" s_end_raw_element 404
  f_takes_marks : (PySem.W.nsIn K mainGlobals "takes_marks" = some (some (.ref 413))) ∧ RawF K "takes_marks" "takes_marks" s_takes_marks 413
  f_read_sign : (PySem.W.nsIn K mainGlobals "read_sign" = some (some (.ref 420))) ∧ RawF K "read_sign" "read_sign" s_read_sign 420
  f_read_signs : (PySem.W.nsIn K mainGlobals "read_signs" = some (some (.ref 427))) ∧ RawF K "read_signs" "read_signs" s_read_signs 427
  f_read_end : (PySem.W.nsIn K mainGlobals "read_end" = some (some (.ref 434))) ∧ RawF K "read_end" "read_end" s_read_end 434
  f_with_references : (PySem.W.nsIn K mainGlobals "with_references" = some (some (.ref 445))) ∧ RawF K "with_references" "with_references" s_with_references 445
  f_write_run_of_text : (PySem.W.nsIn K mainGlobals "write_run_of_text" = some (some (.ref 452))) ∧ RawF K "write_run_of_text" "write_run_of_text" s_write_run_of_text 452
  f_write_attribute : (PySem.W.nsIn K mainGlobals "write_attribute" = some (some (.ref 459))) ∧ RawF K "write_attribute" "write_attribute" s_write_attribute 459
  f_write_open_tag : (PySem.W.nsIn K mainGlobals "write_open_tag" = some (some (.ref 466))) ∧ RawF K "write_open_tag" "write_open_tag" s_write_open_tag 466
  f_write_close_tag : (PySem.W.nsIn K mainGlobals "write_close_tag" = some (some (.ref 473))) ∧ RawF K "write_close_tag" "write_close_tag" s_write_close_tag 473
  f_write_comment : (PySem.W.nsIn K mainGlobals "write_comment" = some (some (.ref 480))) ∧ RawF K "write_comment" "write_comment" s_write_comment 480
  f_write_raw_text : (PySem.W.nsIn K mainGlobals "write_raw_text" = some (some (.ref 487))) ∧ RawF K "write_raw_text" "write_raw_text" s_write_raw_text 487
  f_write_tokens : (PySem.W.nsIn K mainGlobals "write_tokens" = some (some (.ref 495))) ∧ RawF K "write_tokens" "write_tokens" s_write_tokens 495
  f_reads_no_more : (PySem.W.nsIn K mainGlobals "reads_no_more" = some (some (.ref 502))) ∧ RawF K "reads_no_more" "reads_no_more" s_reads_no_more 502
  f_fault_now : (PySem.W.nsIn K mainGlobals "fault_now" = some (some (.ref 509))) ∧ RawF K "fault_now" "fault_now" s_fault_now 509
  f_refusal_of : (PySem.W.nsIn K mainGlobals "refusal_of" = some (some (.ref 514))) ∧ RawF K "refusal_of" "refusal_of" s_refusal_of 514
  f_with_length : (PySem.W.nsIn K mainGlobals "with_length" = some (some (.ref 521))) ∧ RawF K "with_length" "with_length" s_with_length 521
  f_begin : (PySem.W.nsIn K mainGlobals "begin" = some (some (.ref 528))) ∧ RawF K "begin" "begin" s_begin 528
  f_feed : (PySem.W.nsIn K mainGlobals "feed" = some (some (.ref 535))) ∧ RawF K "feed" "feed" s_feed 535
  f_end : (PySem.W.nsIn K mainGlobals "end" = some (some (.ref 542))) ∧ RawF K "end" "end" s_end 542
  f_fault : (PySem.W.nsIn K mainGlobals "fault" = some (some (.ref 549))) ∧ RawF K "fault" "fault" s_fault 549
  f_tokens : (PySem.W.nsIn K mainGlobals "tokens" = some (some (.ref 556))) ∧ RawF K "tokens" "tokens" s_tokens 556
  f_parts_of_open_tag : (PySem.W.nsIn K mainGlobals "parts_of_open_tag" = some (some (.ref 563))) ∧ RawF K "parts_of_open_tag" "parts_of_open_tag" s_parts_of_open_tag 563
  f_token : (PySem.W.nsIn K mainGlobals "token" = some (some (.ref 570))) ∧ RawF K "token" "token" s_token 570
  f_state : (PySem.W.nsIn K mainGlobals "state" = some (some (.ref 577))) ∧ RawF K "state" "state" s_state 577
  f_marks : (PySem.W.nsIn K mainGlobals "marks" = some (some (.ref 584))) ∧ RawF K "marks" "marks" s_marks 584
  f_written : (PySem.W.nsIn K mainGlobals "written" = some (some (.ref 591))) ∧ RawF K "written" "written" s_written 591
  f_whole : (PySem.W.nsIn K mainGlobals "whole" = some (some (.ref 598))) ∧ RawF K "whole" "whole" s_whole 598
  f_length_of_call : (PySem.W.nsIn K mainGlobals "length_of_call" = some (some (.ref 608))) ∧ RawF K "length_of_call" "length_of_call" s_length_of_call 608
  f_answer_of : (PySem.W.nsIn K mainGlobals "answer_of" = some (some (.ref 615))) ∧ RawF K "answer_of" "answer_of" s_answer_of 615
  f_answers : (PySem.W.nsIn K mainGlobals "answers" = some (some (.ref 622))) ∧ RawF K "answers" "answers" s_answers 622
end Mr
end
section
set_option Elab.async false
set_option linter.all false
set_option maxRecDepth 100000
namespace L2
open PySem PySem.Spec PyProof.Rows
abbrev Key := Sum Int Str
def keyIs : Key → Value → Bool
  | .inl k, v => Value.isInt k v
  | .inr x, v => Value.isStrOf x v
def keyH (w : World) : Key → Int
  | .inl k => hashInt k
  | .inr x => hashStr w x
theorem keyIs_shape : ∀ {k : Key} {v : Value}, keyIs k v = true → (∃ i t, k = Sum.inl i ∧ v = Value.int i t) ∨ (∃ x t, k = Sum.inr x ∧ v = Value.str x t)
  | .inl i, v, h => by
    obtain ⟨t, e⟩ := Value.isInt_shape (k := i) (v := v) h
    exact .inl ⟨i, t, rfl, e⟩
  | .inr x, v, h => by
    obtain ⟨t, e⟩ := Value.isStrOf_shape (x := x) (v := v) h
    exact .inr ⟨x, t, rfl, e⟩
theorem keyIs_int (i : Int) (t : Tok) : keyIs (.inl i) (.int i t) = true := by simp [keyIs, Value.isInt]
theorem keyIs_str (x : Str) (t : Tok) : keyIs (.inr x) (.str x t) = true := by simp [keyIs, Value.isStrOf]
theorem key_ll (a b : Int) : decide ((Sum.inl a : Key) = Sum.inl b) = (a == b) := by
  by_cases e : a = b
  · subst e; simp
  · have h : ¬ (Sum.inl a : Key) = Sum.inl b := fun q => e (Sum.inl.inj q)
    rw [decide_eq_false h]
    exact (beq_eq_false_iff_ne.mpr e).symm
theorem key_rr (a b : Str) : decide ((Sum.inr a : Key) = Sum.inr b) = decide (a = b) := by
  by_cases e : a = b
  · subst e; simp
  · have h : ¬ (Sum.inr a : Key) = Sum.inr b := fun q => e (Sum.inr.inj q)
    rw [decide_eq_false h, decide_eq_false e]
theorem key_lr (a : Int) (b : Str) : decide ((Sum.inl a : Key) = Sum.inr b) = false := decide_eq_false (fun q => nomatch q)
theorem key_rl (a : Str) (b : Int) : decide ((Sum.inr a : Key) = Sum.inl b) = false := decide_eq_false (fun q => nomatch q)
def mixKind (prog : Program) (w : World) : PySem.KeyKind prog w Key where
  is := keyIs
  hash := keyH w
  inj := fun v a b ha hb => by
    rcases keyIs_shape ha with ⟨i, t, rfl, rfl⟩ | ⟨x, t, rfl, rfl⟩
    · rcases keyIs_shape hb with ⟨j, u, rfl, e⟩ | ⟨y, u, rfl, e⟩
      · injection e with e1 _; rw [e1]
      · exact nomatch e
    · rcases keyIs_shape hb with ⟨j, u, rfl, e⟩ | ⟨y, u, rfl, e⟩
      · exact nomatch e
      · injection e with e1 _; rw [e1]
  byValue := fun k v h => by
    rcases keyIs_shape h with ⟨i, t, rfl, rfl⟩ | ⟨x, t, rfl, rfl⟩ <;> rfl
  pyHash := fun hv h => by
    rcases keyIs_shape hv with ⟨i, t, rfl, rfl⟩ | ⟨x, t, rfl, rfl⟩
    · exact wpAny_pyHash_int h
    · exact wpAny_pyHash_str h
  eqBool := fun hu hv h => by
    rcases keyIs_shape hu with ⟨i, t, rfl, rfl⟩ | ⟨x, t, rfl, rfl⟩
    · rcases keyIs_shape hv with ⟨j, u, rfl, rfl⟩ | ⟨y, u, rfl, rfl⟩
      · rw [key_ll] at h; exact wpAny_eqBool_int h
      · rw [key_lr] at h; exact SeqAt.EqAt.int_str i t y u _ _ _ _ h
    · rcases keyIs_shape hv with ⟨j, u, rfl, rfl⟩ | ⟨y, u, rfl, rfl⟩
      · rw [key_rl] at h; exact SeqAt.EqAt.str_int x t j u _ _ _ _ h
      · rw [key_rr] at h; exact wpAny_eqBool_str h
  «strs» := fun k x t v h => by
    rcases keyIs_shape h with ⟨i, u, rfl, e⟩ | ⟨y, u, rfl, e⟩
    · exact nomatch e
    · injection e with e1 _
      subst e1
      cases v <;> rfl
theorem mixKind_int (prog : Program) (w : World) (i : Int) (t : Tok) : (mixKind prog w).is (.inl i) (.int i t) = true := keyIs_int i t
theorem mixKind_str (prog : Program) (w : World) (x : Str) (t : Tok) : (mixKind prog w).is (.inr x) (.str x t) = true := keyIs_str x t
end L2
namespace L2
open PySem PySem.Spec PyProof.Rows
inductive V where
  | non | bl (b : Bool) | int (i : Int) | str (x : Str) | byt (b : Array UInt8) | flt (b : UInt64) | ref (a : Addr) | ty (n : String)
  deriving DecidableEq
def RelV : V → Value → Prop
  | .non, u => u = Value.none
  | .bl b, u => u = Value.bool b
  | .int i, u => ∃ t, u = Value.int i t
  | .str x, u => ∃ t, u = Value.str x t
  | .byt b, u => ∃ t, u = Value.bytes b t
  | .flt b, u => ∃ t, u = Value.float b t
  | .ref a, u => u = Value.ref a
  | .ty n, u => u = Value.type n
abbrev Vals : List V → List Value → Prop := Paired RelV
theorem Vals.length {xs : List V} {us : List Value} (r : Vals xs us) : xs.length = us.length := Paired.length r
theorem Vals.get : ∀ {xs : List V} {us : List Value} {i : Nat} {x : V}, Vals xs us → xs[i]? = some x → ∃ u, us[i]? = some u ∧ RelV x u
  | _, _, _, _, .nil, e => by simp at e
  | _, _, 0, _, .cons r _, e => by simp at e; subst e; exact ⟨_, rfl, r⟩
  | _, _, i + 1, x, .cons _ t, e => by
    obtain ⟨u, h1, h2⟩ := Vals.get (i := i) (x := x) t (by simpa using e)
    exact ⟨u, by simpa using h1, h2⟩
theorem Vals.append : ∀ {xs ys : List V} {us ws : List Value}, Vals xs us → Vals ys ws → Vals (xs ++ ys) (us ++ ws)
  | _, _, _, _, .nil, s => s
  | _, _, _, _, .cons r t, s => .cons r (Vals.append t s)
theorem Vals.take : ∀ {xs : List V} {us : List Value} (n : Nat), Vals xs us → Vals (xs.take n) (us.take n)
  | _, _, 0, _ => .nil
  | _, _, _ + 1, .nil => .nil
  | _, _, n + 1, .cons r t => .cons r (Vals.take n t)
theorem Vals.drop : ∀ {xs : List V} {us : List Value} (n : Nat), Vals xs us → Vals (xs.drop n) (us.drop n)
  | _, _, 0, r => r
  | _, _, _ + 1, .nil => .nil
  | _, _, n + 1, .cons _ t => Vals.drop n t
def RelO : Option V → Option Value → Prop
  | some v, some u => RelV v u
  | none, none => True
  | _, _ => False
def KV {κ : Type} : List (κ × V) → List (κ × Value) → Prop := Paired fun (p : κ × V) (q : κ × Value) => p.1 = q.1 ∧ RelV p.2 q.2
def kV : Key → V
  | .inl i => .int i
  | .inr x => .str x
inductive HO where
  /-- a list -/
  | lst (xs : List V)
  /-- a tuple (never changes) -/
  | tup (xs : List V)
  /-- a dict whose keys are ints and texts; one whose keys are tuples of ints and texts (the empty one is both) -/
  | dK (kvs : List (Key × V)) | dT (kvs : List (List Key × V))
  /-- a set of ints: its members, its size -/
  | set (S : Int → Bool) (n : Nat)
  /-- an instance of the class at C, its dict at dx, its attributes -/
  | ins (C dx : Addr) (fs : List (Str × V))
  /-- the dict of the instance at x -/
  | own (x : Addr)
  /-- the dict of an exception -/
  | xd (fs : List (Str × V))
  /-- a bound method, f of x -/
  | met (f x : Addr)
  /-- a range object lo, lo + 1, .. below hi -/
  | rng (lo hi : Int)
  /-- a thing that is known to the object (the script; a dict while a loop walks it): read, never written while it is so -/
  | frz (o : Obj) (u : HO)
  /-- a code object's table -/
  | tbl (ps : Array Value)
  /-- any other thing, by what is true of its one object (a def of one's own: SetO a S n := HO.ext fun h => ..) -/
  | ext (φ : Heap → Prop)
abbrev Hp := Addr → Option HO
def upd (H : Hp) (a : Addr) (o : HO) : Hp := fun b => if b = a then some o else H b
theorem upd_same {H : Hp} {a : Addr} {o : HO} : upd H a o a = some o := by unfold upd; rw [if_pos rfl]
theorem upd_ne {H : Hp} {a b : Addr} {o : HO} (h : b ≠ a) : upd H a o b = H b := by unfold upd; rw [if_neg h]
theorem ne_of {H : Hp} {a b : Addr} {o u : HO} (h : H a = some o) (h' : H b = some u) (d : o ≠ u) : a ≠ b := by
  intro e; subst e; rw [h] at h'; exact d (Option.some.inj h')
theorem ne_of_none {H : Hp} {a b : Addr} {o : HO} (h : H a = some o) (h' : H b = none) : a ≠ b := by
  intro e; subst e; rw [h] at h'; cases h'
section
variable (P : Program) (w : World)
def ObjOk (H : Hp) (h : Heap) (a : Addr) : HO → Prop
  | .lst xs => xs.length ≤ sizeLine ∧ ∃ (its : List Value) (n : Nat), Vals xs its ∧ h.get? a = some { cls := .type "list", data := .seq its.toArray n }
  | .tup xs => xs.length ≤ sizeLine ∧ ∃ its : List Value, Vals xs its ∧ IsTup h a its.toArray
  | .dK kvs => kvs.length ≤ sizeLine ∧ (a == sysModules) = false ∧ ∃ vs, KV kvs vs ∧ h.DictOf (mixKind P w) a vs
  | .dT kvs => kvs.length ≤ sizeLine ∧ (a == sysModules) = false ∧ ∃ xs : List (List Key × Addr × Value),
      Paired (fun (p : List Key × V) (q : List Key × Addr × Value) => p.1 = q.1 ∧ H q.2.1 = some (.tup (p.1.map kV)) ∧ RelV p.2 q.2.2) kvs xs ∧
      ∃ o es ep, h.get? a = some o ∧ o.ExactDict ∧ o.data = .dict es ep ∧ es.toList = xs.map (entryOfKey (tupleKind (mixKind P w))) ∧ (xs.map (·.1)).Nodup
  | .set S n => h.SetOf (intKind P w) a S n
  | .ins C dx fs => H dx = some (.own a) ∧ fs.length ≤ 1000 ∧ dx ≠ a ∧ h.get? a = some (PySem.W.instObj C dx) ∧
      ∃ mA, h.Ns1 dx mA ∧ (∀ f, RelO (fs.lookup f) (mA f)) ∧ PySem.Within mA (fs.map (·.1))
  | .own _ => ∃ o, h.get? a = some o
  | .xd fs => ∃ mA, h.Ns1 a mA ∧ ∀ f, RelO (fs.lookup f) (mA f)
  | .rng lo hi => ∃ t u v, h.get? a = some { cls := .type "range", data := .fields #[.int lo t, .int hi u, .int 1 v] }
  | .frz o u => h.get? a = some o ∧ ObjOk H h a u
  | .tbl ps => h.get? a = some { cls := .none, data := .fields ps }
  | .met f x => h.get? a = some (PySem.W.methodObj (.ref f) (.ref x))
  | .ext φ => φ h ∧ (∃ o, h.get? a = some o) ∧ ∀ h1 h2 : Heap, φ h1 → (∀ o, h1.get? a = some o → h2.get? a = some o) → φ h2
def HOk (H : Hp) (h : Heap) : Prop := ∀ a o, H a = some o → ObjOk P w H h a o
end
section
variable {P : Program} {w : World} {H H' : Hp} {h h' : Heap} {a : Addr} {o : HO}
theorem ObjOk.lt (x : ObjOk P w H h a o) : a < h.objs.size := by
  cases o with
  | lst xs => obtain ⟨_, _, _, _, e⟩ := x; exact Heap.lt_size e
  | tup xs => obtain ⟨_, _, _, p⟩ := x; exact p.lt
  | dK kvs => obtain ⟨_, _, _, _, o, _, _, e, _⟩ := x; exact Heap.lt_size e
  | dT kvs => obtain ⟨_, _, _, _, o, _, _, e, _⟩ := x; exact Heap.lt_size e
  | set S n => obtain ⟨o, _, _, _, e, _⟩ := x; exact Heap.lt_size e
  | ins C dx fs => obtain ⟨_, _, _, e, _⟩ := x; exact Heap.lt_size e
  | own y => obtain ⟨_, e⟩ := x; exact Heap.lt_size e
  | xd fs => obtain ⟨_, ⟨_, _, _, e, _⟩, _⟩ := x; exact Heap.lt_size e
  | rng lo hi => obtain ⟨_, _, _, e⟩ := x; exact Heap.lt_size e
  | frz ob u => obtain ⟨e, _⟩ := x; exact Heap.lt_size e
  | tbl ps => exact Heap.lt_size (show h.get? a = some _ from x)
  | met f y => exact Heap.lt_size (show h.get? a = some _ from x)
  | ext φ => obtain ⟨_, ⟨_, e⟩, _⟩ := x; exact Heap.lt_size e
theorem Paired.mapP {α β : Type} {F G : α → β → Prop} : ∀ {l₁ : List α} {l₂ : List β}, Paired F l₁ l₂ → (∀ a b, F a b → G a b) → Paired G l₁ l₂
  | _, _, .nil, _ => .nil
  | _, _, .cons r t, f => .cons (f _ _ r) (Paired.mapP t f)
theorem ObjOk.stay (x : ObjOk P w H h a o) (k : ∀ b u, (b = a ∨ H b = some (.own a)) → h.get? b = some u → h'.get? b = some u)
    (ho : ∀ b, H b = some (.own a) → H' b = some (.own a)) (ht : ∀ b xs, H b = some (.tup xs) → H' b = some (.tup xs)) : ObjOk P w H' h' a o := by
  induction o with
  | lst xs => obtain ⟨z, its, n, r, e⟩ := x; exact ⟨z, its, n, r, k _ _ (.inl rfl) e⟩
  | tup xs => obtain ⟨z, its, r, ob, e, c⟩ := x; exact ⟨z, its, r, ob, k _ _ (.inl rfl) e, c⟩
  | dK kvs => obtain ⟨z, y, vs, r, ob, es, ep, e, c⟩ := x; exact ⟨z, y, vs, r, ob, es, ep, k _ _ (.inl rfl) e, c⟩
  | dT kvs =>
    obtain ⟨z, y, xs, r, ob, es, ep, e, c⟩ := x
    exact ⟨z, y, xs, Paired.mapP r fun p q z => ⟨z.1, ht _ _ z.2.1, z.2.2⟩, ob, es, ep, k _ _ (.inl rfl) e, c⟩
  | set S n => obtain ⟨ob, es, ep, t, e, c⟩ := x; exact ⟨ob, es, ep, t, k _ _ (.inl rfl) e, c⟩
  | ins C dx fs =>
    obtain ⟨d, z, ne, e, mA, ⟨od, es, ep, e2, c⟩, r⟩ := x
    exact ⟨ho _ d, z, ne, k _ _ (.inl rfl) e, mA, ⟨od, es, ep, k _ _ (.inr d) e2, c⟩, r⟩
  | own y => obtain ⟨ob, e⟩ := x; exact ⟨ob, k _ _ (.inl rfl) e⟩
  | xd fs => obtain ⟨mA, ⟨od, es, ep, e, c⟩, r⟩ := x; exact ⟨mA, ⟨od, es, ep, k _ _ (.inl rfl) e, c⟩, r⟩
  | rng lo hi => obtain ⟨t, u, v, e⟩ := x; exact ⟨t, u, v, k _ _ (.inl rfl) e⟩
  | frz ob u ih => obtain ⟨e, q⟩ := x; exact ⟨k _ _ (.inl rfl) e, ih q⟩
  | tbl ps =>
    have e : h.get? a = some { cls := .none, data := .fields ps } := x
    show h'.get? a = some { cls := .none, data := .fields ps }
    exact k a _ (.inl rfl) e
  | met f y =>
    have e : h.get? a = some (PySem.W.methodObj (.ref f) (.ref y)) := x
    show h'.get? a = some (PySem.W.methodObj (.ref f) (.ref y))
    exact k a _ (.inl rfl) e
  | ext φ => obtain ⟨p, ⟨o, e⟩, st⟩ := x; exact ⟨st _ _ p fun o q => k _ _ (.inl rfl) q, ⟨o, k _ _ (.inl rfl) e⟩, st⟩
theorem HOk.lt (x : HOk P w H h) (e : H a = some o) : a < h.objs.size := (x a o e).lt
theorem HOk.fresh (x : HOk P w H h) (e : h.objs.size ≤ a) : H a = none := by
  cases q : H a with
  | none => rfl
  | some u => exact absurd (Nat.lt_of_lt_of_le (x.lt q) e) (Nat.lt_irrefl _)
theorem HOk.kept (x : HOk P w H h) (k : ∀ b u, h.get? b = some u → h'.get? b = some u) : HOk P w H h' := fun a o e =>
  (x a o e).stay (fun b u _ q => k b u q) (fun _ q => q) fun _ _ q => q
theorem HOk.laid (x : HOk P w H h) (k : ∀ b u, h.get? b = some u → h'.get? b = some u) (hp : h.objs.size ≤ a) (new : ObjOk P w (upd H a o) h' a o) : HOk P w (upd H a o) h' := fun b u e => by
  have hn := x.fresh hp
  by_cases hb : b = a
  · subst hb; rw [upd_same] at e; cases e; exact new
  · rw [upd_ne hb] at e
    exact (x b u e).stay (fun c v _ q => k c v q) (fun c q => by rw [upd_ne (ne_of_none q hn)]; exact q) fun c xs q => by rw [upd_ne (ne_of_none q hn)]; exact q
end
def Rd (H : Hp) (a : Addr) (u : HO) : Prop := H a = some u ∨ ∃ o, H a = some (.frz o u)
theorem Rd.ok {P : Program} {w : World} {H : Hp} {h : Heap} {a : Addr} {u : HO} (r : Rd H a u) (x : HOk P w H h) : ObjOk P w H h a u := by
  rcases r with r | ⟨o, r⟩
  · exact x a u r
  · obtain ⟨_, q⟩ := x a _ r
    exact q
def Mut : Option HO → Prop
  | some (.lst _) => True
  | some (.dK _) => True
  | some (.dT _) => True
  | some (.set _ _) => True
  | some (.ins _ _ _) => True
  | some (.ext _) => True
  | _ => False
section
variable {P : Program} {w : World} {H : Hp} {h h' : Heap} {x e : Addr} {o' : HO}
theorem HOk.write (ok : HOk P w H h) (mu : Mut (H x)) (he : e = x ∨ H e = some (.own x)) (k : ∀ b u, b ≠ e → h.get? b = some u → h'.get? b = some u) (heo : ∃ u, h'.get? e = some u)
    (new : ObjOk P w (upd H x o') h' x o') : HOk P w (upd H x o') h' := fun b u q => by
  have nown : ∀ c y, H c = some (.own y) → c ≠ x := fun c y r z => by subst z; rw [r] at mu; exact mu
  have ntup : ∀ c xs, H c = some (.tup xs) → c ≠ x := fun c xs r z => by subst z; rw [r] at mu; exact mu
  by_cases hb : b = x
  · subst hb; rw [upd_same] at q; cases q; exact new
  · rw [upd_ne hb] at q
    by_cases hbe : b = e
    · have q' : H b = some (.own x) := by
        rcases he with z | z
        · exact absurd (hbe.trans z) hb
        · rw [hbe]; exact z
      rw [q] at q'; cases q'
      obtain ⟨v, hv⟩ := heo
      exact ⟨v, by rw [hbe]; exact hv⟩
    · refine (ok b u q).stay (fun c v hc r => k c v ?_ r) (fun c r => by rw [upd_ne (nown c b r)]; exact r) fun c xs r => by rw [upd_ne (ntup c xs r)]; exact r
      rcases hc with rfl | hc
      · exact hbe
      · rintro rfl
        rcases he with z | z
        · exact nown c b hc z
        · rw [hc] at z; cases z; exact hb rfl
end
structure Un (fs ex : List Addr) (H H' : Hp) (h h' : Heap) : Prop where
  keep : ∀ b o, h.get? b = some o → H b = none → b ∉ fs → b ∉ ex → h'.get? b = some o
  slot : ∀ b o, h.get? b = some o → H b = none → b ∈ fs → b ∉ ex → ∃ sl, h'.get? b = some { o with slots := sl }
  free : ∀ b o, h.get? b = some o → H b = none → b ∉ ex → H' b = none
  there : ∀ b o, h.get? b = some o → b ∉ ex → ∃ o', h'.get? b = some o'
  tups : ∀ b xs, H b = some (.tup xs) → H' b = some (.tup xs)
  frzs : ∀ b o u, H b = some (.frz o u) → H' b = some (.frz o u)
  tbls : ∀ b ps, H b = some (.tbl ps) → ∃ more, H' b = some (.tbl (ps ++ more))
section
variable {fs fs' ex ex' : List Addr} {H H1 H2 : Hp} {h h1 h2 h' : Heap} {a x e : Addr} {o : HO}
theorem Un.any (u : Un fs ex H H1 h h1) {b : Addr} {ob : Obj} (q : h.get? b = some ob) (n : H b = none) (hx : b ∉ ex) : ∃ sl, h1.get? b = some { ob with slots := sl } := by
  by_cases hb : b ∈ fs
  · exact u.slot b ob q n hb hx
  · exact ⟨ob.slots, u.keep b ob q n hb hx⟩
theorem Un.kept (k : ∀ b u, h.get? b = some u → h'.get? b = some u) : Un fs ex H H h h' :=
  ⟨fun b ob q _ _ _ => k b ob q, fun b ob q _ _ _ => ⟨ob.slots, k b ob q⟩, fun _ _ _ n _ => n, fun b ob q _ => ⟨ob, k b ob q⟩, fun _ _ q => q, fun _ _ _ q => q, fun _ ps q => ⟨#[], by rw [q]; simp⟩⟩
theorem Un.refl : Un fs ex H H h h := Un.kept fun _ _ q => q
theorem Un.laid (k : ∀ b u, h.get? b = some u → h'.get? b = some u) (hp : h.objs.size ≤ a) (hn : H a = none) : Un fs ex H (upd H a o) h h' where
  keep := fun b u q _ _ _ => k b u q
  slot := fun b u q _ _ _ => ⟨u.slots, k b u q⟩
  free := fun b u q n _ => by rw [upd_ne (Nat.ne_of_lt (Nat.lt_of_lt_of_le (Heap.lt_size q) hp))]; exact n
  there := fun b u q _ => ⟨u, k b u q⟩
  tups := fun b xs q => by rw [upd_ne (ne_of_none q hn)]; exact q
  frzs := fun b u xs q => by rw [upd_ne (ne_of_none q hn)]; exact q
  tbls := fun b ps q => ⟨#[], by rw [upd_ne (ne_of_none q hn), q]; simp⟩
theorem Un.write (mu : Mut (H x)) (he : e = x ∨ H e = some (.own x)) (k : ∀ b u, b ≠ e → h.get? b = some u → h'.get? b = some u) (heo : ∃ u, h'.get? e = some u) : Un fs ex H (upd H x o) h h' := by
  have hx : ∀ b, H b = none → b ≠ x := fun b n z => by subst z; rw [n] at mu; exact mu
  have hb : ∀ b, H b = none → b ≠ e := fun b n z => by
    subst z
    rcases he with r | r
    · exact hx b n r
    · rw [n] at r; cases r
  have hm : ∀ b u, H b = some u → ¬ Mut (some u) → b ≠ x := fun b u q nm z => by subst z; rw [q] at mu; exact nm mu
  refine ⟨fun b u q n _ _ => k b u (hb b n) q, fun b u q n _ _ => ⟨u.slots, k b u (hb b n) q⟩, fun b u q n _ => by rw [upd_ne (hx b n)]; exact n, fun b u q _ => ?_,
    fun b xs q => by rw [upd_ne (hm b _ q fun z => z)]; exact q, fun b u xs q => by rw [upd_ne (hm b _ q fun z => z)]; exact q, fun b ps q => ⟨#[], by rw [upd_ne (hm b _ q fun z => z), q]; simp⟩⟩
  by_cases hbe : b = e
  · subst hbe; exact heo
  · exact ⟨u, k b u hbe q⟩
end
def trk (h : Heap) (H : Hp) : List Addr := (List.range h.objs.size).filter fun a => (H a).isSome
def hidT (h : Heap) (H : Hp) : Heap := PySem.W.hideAll h (trk h H)
theorem hidT_size (h : Heap) (H : Hp) : (hidT h H).objs.size = h.objs.size := PySem.W.hideAll_size _ _
theorem hidT_get {h : Heap} {H : Hp} {b : Addr} {o : Obj} (e : h.get? b = some o) (n : H b = none) : (hidT h H).get? b = some o :=
  PySem.W.hideAll_get _ e fun hm => by
    have q : (H b).isSome = true := (List.mem_filter.mp hm).2
    rw [n] at q; simp at q
theorem of_hidT {h : Heap} {H : Hp} {b : Addr} {o : Obj} (e : (hidT h H).get? b = some o) : h.get? b = some o ∧ H b = none := by
  have e' : h.get? b = some o := PySem.W.of_hideAll (trk h H) e
  refine ⟨e', ?_⟩
  cases q : H b with
  | none => rfl
  | some x =>
    have hm : b ∈ trk h H := List.mem_filter.mpr ⟨List.mem_range.mpr (Heap.lt_size e'), by simp [q]⟩
    have z : (hidT h H).get? b = none := PySem.W.hideAll_none (trk h H) hm
    rw [z] at e; cases e
def allNews (g h : Heap) (L : Addr) : List (Addr × Obj) := (List.range h.objs.size).filterMap fun a => if a = L ∨ (g.get? a).isSome = true then none else (h.get? a).map fun o => (a, o)
def rest (g h : Heap) (L d : Addr) : List (Addr × Obj) := (allNews g h L).filter fun p => decide (p.1 ≠ d)
end L2
namespace L2
open PySem PySem.Spec PyProof.Rows
structure Mod (K : PySem.W.Frag) (mg : Str → Option Value) (base : Heap) : Prop where
  kin : K.In base
  glob : base.Ns mainGlobals mg
  blt : ∃ mb, base.Ns builtinsNs mb ∧ ∀ x : Str, x ≠ "__name__" → mb x = bootBuiltins x
  nolimit : base.NoLimit
structure Cx where
  prog : Program
  w : World
  K : PySem.W.Frag
  mg : Str → Option Value
  base : Heap
  A : Around
  N : List Str
  s_0 : Shared
  H_0 : Hp
  env : Env
  outer : List Env
  stack : List Env
  ex : List Addr
  fn : Str → Bool
  calm : Bool
  pn : List (Addr × Obj)
  xe : Value → Shared → Prop
def frs (l : List Env) : List Addr := l.filterMap (·.frame)
abbrev Cx.fs (X : Cx) : List Addr := frs X.outer
def Vis (sc : Scope) (x : Str) : Prop := sc.names.lookup x = some .local ∨ sc.names.lookup x = some .cell ∨ sc.names.lookup x = some .free
def Loc (sc : Scope) (x : Str) : Prop := sc.names.lookup x = some .local ∨ sc.names.lookup x = some .cell
def Look (env : Env) (h : Heap) (m : Str → Option Value) (x : Str) (u : Value) : Prop :=
  (env.kindOf x = some .local ∧ m x = some u) ∨ ((env.kindOf x = some .cell ∨ env.kindOf x = some .free) ∧ ∃ c, env.cells.lookup x = some c ∧ h.IsCell c (some u))
structure Cx.Ok (X : Cx) : Prop where
  mod : Mod X.K X.mg X.base
  kind : X.env.scope.kind = .function
  glob : X.env.globals = mainGlobals
  blt : X.env.builtins = builtinsNs
  above : X.s_0.heap.objs.size ≤ X.env.locals
  inj : ∀ x y c, X.env.cells.lookup x = some c → X.env.cells.lookup y = some c → x = y
  has : ∀ x, (X.env.kindOf x = some .cell ∨ X.env.kindOf x = some .free) → ∃ c, X.env.cells.lookup x = some c
  cab : ∀ x c, X.fn x = true → X.env.cells.lookup x = some c → X.s_0.heap.objs.size ≤ c
  hd : X.calm = true → X.A.handled = none
  frames : X.A.frames = some X.stack
  stk : X.stack = X.outer ∨ (X.stack = X.env :: X.outer ∧ X.env.frame = some X.env.locals)
  exf : ∀ b ∈ X.ex, b ≠ X.env.locals ∧ ∀ x c, X.env.cells.lookup x = some c → c ≠ b
  bs : ∀ b o, X.base.get? b = some o → X.s_0.heap.get? b = some o ∧ X.H_0 b = none
  bsz : X.base.objs.size ≤ X.s_0.heap.objs.size
  noex : ∀ b o, X.base.get? b = some o → b ∉ X.ex
  exfs : ∀ b ∈ X.ex, b ∉ X.fs
  funs : X.s_0.heap.FunFrames X.base X.outer
  frf : ∀ b ∈ X.fs, X.H_0 b = none
structure Inv (X : Cx) (pins : List (Addr × Obj)) (σ : List (Option V)) (H : Hp) (s : Shared) : Prop where
  ok : X.Ok
  os : s.os = X.s_0.os
  bare : AllBare s.gens
  base : Un X.fs X.ex X.H_0 H X.s_0.heap s.heap
  loc : ∃ m, s.heap.Ns X.env.locals m ∧ ∀ (i : Nat) (x : Str) (v : V), X.N[i]? = some x → σ[i]? = some (some v) → Vis X.env.scope x → ∃ u, RelV v u ∧ Look X.env s.heap m x u
  cell : ∀ x c, X.env.cells.lookup x = some c → ∃ v, s.heap.IsCell c v
  free : H X.env.locals = none
  freeC : ∀ x c, X.env.cells.lookup x = some c → H c = none
  pin : ∀ p ∈ X.pn ++ pins, s.heap.get? p.1 = some p.2 ∧ H p.1 = none ∧ p.1 ≠ X.env.locals ∧ p.1 ∉ X.fs ∧ ∀ v, p.2.data ≠ .cell v
  hok : HOk X.prog X.w H s.heap
  len : σ.length = X.N.length
section
variable {X : Cx} {pins : List (Addr × Obj)} {σ : List (Option V)} {H H' : Hp} {s : Shared} {h' : Heap}
theorem Cx.Ok.nofr (ok : X.Ok) {b : Addr} {o : Obj} (e : X.base.get? b = some o) : b ∉ X.fs := fun hb => by
  have := (ok.funs.mem hb).1
  rw [e] at this; cases this
theorem Inv.bs (I : Inv X pins σ H s) : ∀ b o, X.base.get? b = some o → s.heap.get? b = some o ∧ H b = none := fun b o e =>
  ⟨I.base.keep b o (I.ok.bs b o e).1 (I.ok.bs b o e).2 (I.ok.nofr e) (I.ok.noex b o e), I.base.free b o (I.ok.bs b o e).1 (I.ok.bs b o e).2 (I.ok.noex b o e)⟩
theorem Inv.bk (I : Inv X pins σ H s) : ∀ b o, X.base.get? b = some o → s.heap.get? b = some o := fun b o e => (I.bs b o e).1
theorem Inv.mod (I : Inv X pins σ H s) : Mod X.K X.mg X.base := I.ok.mod
theorem Inv.kIn (I : Inv X pins σ H s) : X.K.In s.heap := I.ok.mod.kin.keeps I.bk
theorem Inv.fr (I : Inv X pins σ H s) : ∃ m, Fr X.base X.env.locals s.heap m :=
  let ⟨m, hn, _⟩ := I.loc
  ⟨m, hn, I.bk, Nat.le_trans I.ok.bsz I.ok.above⟩
theorem Inv.lt (I : Inv X pins σ H s) : X.env.locals < s.heap.objs.size := let ⟨_, hn, _⟩ := I.loc; hn.lt
theorem Inv.sz (I : Inv X pins σ H s) : X.s_0.heap.objs.size ≤ s.heap.objs.size := Nat.le_trans I.ok.above (Nat.le_of_lt I.lt)
theorem Inv.nofs (I : Inv X pins σ H s) {a : Addr} (h : s.heap.objs.size ≤ a) : a ∉ X.fs := fun hb => by
  obtain ⟨_, o, ho, _⟩ := I.ok.funs.mem hb
  exact absurd (Nat.lt_of_lt_of_le (Heap.lt_size ho) (Nat.le_trans I.sz h)) (Nat.lt_irrefl _)
theorem Inv.cne (I : Inv X pins σ H s) : ∀ x c, X.env.cells.lookup x = some c → c ≠ X.env.locals := fun x c e z => by
  obtain ⟨v, o, ho, hd⟩ := I.cell x c e
  obtain ⟨m, ⟨o', es, ep, ho', hd', _⟩, _⟩ := I.loc
  rw [z, ho'] at ho; cases ho; rw [hd'] at hd; cases hd
theorem Inv.funs (I : Inv X pins σ H s) : s.heap.FunFrames X.base X.outer := by
  have all : ∀ (l : List Env), (∀ b ∈ frs l, b ∈ X.fs) → X.s_0.heap.FunFrames X.base l → s.heap.FunFrames X.base l := by
    intro l
    induction l with
    | nil => intro _ _; trivial
    | cons env r ih =>
      intro hs hl
      obtain ⟨hk, ⟨L, o, hf, hn, ho, hd⟩, hr⟩ := hl
      have hL : L ∈ X.fs := hs L (by unfold frs; rw [List.filterMap_cons, hf]; exact List.mem_cons_self)
      obtain ⟨sl, e⟩ := I.base.slot L o ho (I.ok.frf L hL) hL fun z => I.ok.exfs L z hL
      exact ⟨hk, ⟨L, _, hf, hn, e, hd⟩, ih (fun b hb => hs b (by unfold frs; rw [List.filterMap_cons, hf]; exact List.mem_cons_of_mem _ hb)) hr⟩
  exact all X.outer (fun _ hb => hb) I.ok.funs
theorem Inv.stack (I : Inv X pins σ H s) : s.heap.FunFrames X.base X.stack := by
  rcases I.ok.stk with e | ⟨e, hf⟩
  · rw [e]; exact I.funs
  · rw [e]
    obtain ⟨m, hn, _⟩ := I.loc
    refine .cons (by rw [I.ok.kind]; decide) hf hn ?_ I.funs
    exact Heap.get?_none_of_le (Nat.le_trans I.ok.bsz I.ok.above)
theorem Inv.stkSub (I : Inv X pins σ H s) : ∀ b ∈ frs X.stack, b ∈ X.env.locals :: X.fs := fun b hb => by
  rcases I.ok.stk with e | ⟨e, hf⟩
  · rw [e] at hb; exact List.mem_cons_of_mem _ hb
  · rw [e] at hb
    unfold frs at hb
    rw [List.filterMap_cons, hf] at hb
    exact hb
theorem Inv.stkFree (I : Inv X pins σ H s) : ∀ b ∈ frs X.stack, H b = none := fun b hb => by
  rcases List.mem_cons.mp (I.stkSub b hb) with e | hb
  · rw [e]; exact I.free
  · obtain ⟨_, o, ho, _⟩ := I.ok.funs.mem hb
    exact I.base.free b o ho (I.ok.frf b hb) fun z => I.ok.exfs b z hb
theorem Inv.step {g' : Array GenState} {t' : Nat} {d' : Drawn} {ch : List Addr} (I : Inv X pins σ H s)
    (hch : ∀ b ∈ ch, (b ∈ X.ex ∨ X.s_0.heap.objs.size ≤ b) ∧ b ≠ X.env.locals ∧ (∀ x c, X.env.cells.lookup x = some c → c ≠ b) ∧ ∀ p ∈ X.pn ++ pins, p.1 ≠ b)
    (keep : ∀ b o, b ≠ X.env.locals → b ∉ X.fs → b ∉ ch → s.heap.get? b = some o → H b = none → h'.get? b = some o)
    (slot : ∀ b o, b ≠ X.env.locals → b ∈ X.fs → b ∉ ch → s.heap.get? b = some o → H b = none → ∃ sl, h'.get? b = some { o with slots := sl }) (free : ∀ b o, b ∉ ch → s.heap.get? b = some o → H b = none → H' b = none)
    (there : ∀ b o, b ∉ ch → s.heap.get? b = some o → ∃ o', h'.get? b = some o')
    (tups : ∀ b xs, H b = some (.tup xs) → H' b = some (.tup xs)) (frzs : ∀ b o u, H b = some (.frz o u) → H' b = some (.frz o u)) (tbls : ∀ b ps, H b = some (.tbl ps) → ∃ more, H' b = some (.tbl (ps ++ more)))
    (ns : ∀ m, s.heap.Ns X.env.locals m → h'.Ns X.env.locals m) (hok : HOk X.prog X.w H' h') (hg : AllBare g') :
    Inv X pins σ H' { s with heap := h', gens := g', drawn := d', toks := t' } := by
  have neL : ∀ b o, X.s_0.heap.get? b = some o → b ≠ X.env.locals := fun b o e => Nat.ne_of_lt (Nat.lt_of_lt_of_le (Heap.lt_size e) I.ok.above)
  have neC : ∀ b o, X.s_0.heap.get? b = some o → b ∉ X.ex → b ∉ ch := fun b o e hx hb => by
    rcases (hch b hb).1 with z | z
    · exact hx z
    · exact absurd (Nat.lt_of_lt_of_le (Heap.lt_size e) z) (Nat.lt_irrefl _)
  have cellK : ∀ x c, X.env.cells.lookup x = some c → ∀ v, s.heap.IsCell c v → h'.IsCell c v := fun x c e v ⟨o, ho, hd⟩ => by
    have nch : c ∉ ch := fun z => (hch c z).2.2.1 x c e rfl
    by_cases hc : c ∈ X.fs
    · obtain ⟨sl, q⟩ := slot c o (I.cne x c e) hc nch ho (I.freeC x c e)
      exact ⟨_, q, hd⟩
    · exact ⟨o, keep c o (I.cne x c e) hc nch ho (I.freeC x c e), hd⟩
  refine ⟨I.ok, I.os, hg, ⟨fun b o e n hb hx => ?_, fun b o e n hb hx => ?_, fun b o e n hx => ?_, fun b o e hx => ?_, fun b xs e => tups b xs (I.base.tups b xs e), fun b o xs e => frzs b o xs (I.base.frzs b o xs e), fun b ps e => ?_⟩, ?_, fun x c e => ?_, ?_, fun x c e => ?_, fun p hp => ?_, hok, I.len⟩
  · exact keep b o (neL b o e) hb (neC b o e hx) (I.base.keep b o e n hb hx) (I.base.free b o e n hx)
  · obtain ⟨sl, e1⟩ := I.base.slot b o e n hb hx
    obtain ⟨sl', e2⟩ := slot b _ (neL b o e) hb (neC b o e hx) e1 (I.base.free b o e n hx)
    exact ⟨sl', e2⟩
  · obtain ⟨o', e1⟩ := I.base.there b o e hx
    exact free b o' (neC b o e hx) e1 (I.base.free b o e n hx)
  · obtain ⟨o', e1⟩ := I.base.there b o e hx
    exact there b o' (neC b o e hx) e1
  · obtain ⟨m1, e1⟩ := I.base.tbls b ps e
    obtain ⟨m2, e2⟩ := tbls b _ e1
    exact ⟨m1 ++ m2, by rw [e2, Array.append_assoc]⟩
  · obtain ⟨m, hn, hl⟩ := I.loc
    refine ⟨m, ns m hn, fun i x v e1 e2 e3 => ?_⟩
    obtain ⟨u, r, l⟩ := hl i x v e1 e2 e3
    refine ⟨u, r, ?_⟩
    rcases l with l | ⟨k, c, e, z⟩
    · exact .inl l
    · exact .inr ⟨k, c, e, cellK x c e _ z⟩
  · obtain ⟨v, z⟩ := I.cell x c e
    exact ⟨v, cellK x c e v z⟩
  · obtain ⟨m, ⟨o, _, _, ho, _⟩, _⟩ := I.loc
    exact free _ o (fun z => (hch _ z).2.1 rfl) ho I.free
  · obtain ⟨v, o, ho, hd⟩ := I.cell x c e
    exact free c o (fun z => (hch c z).2.2.1 x c e rfl) ho (I.freeC x c e)
  · obtain ⟨e, n, ne, nf, d⟩ := I.pin p hp
    have nch : p.1 ∉ ch := fun z => (hch p.1 z).2.2.2 p hp rfl
    exact ⟨keep p.1 p.2 ne nf nch e n, free p.1 p.2 nch e n, ne, nf, d⟩
theorem Inv.un {t' : Nat} (I : Inv X pins σ H s) (u : Un X.fs [] H H' s.heap h') (hok : HOk X.prog X.w H' h') : Inv X pins σ H' { s with heap := h', toks := t' } := by
  obtain ⟨m, ⟨o, es, ep, ho, r⟩, _⟩ := id I.loc
  obtain ⟨sl, hL⟩ := u.any ho I.free (by simp)
  exact I.step (g' := s.gens) (d' := s.drawn) (ch := []) (fun _ z => nomatch z) (fun b o _ hb _ e n => u.keep b o e n hb (by simp)) (fun b o _ hb _ e n => u.slot b o e n hb (by simp)) (fun b o _ e n => u.free b o e n (by simp)) (fun b o _ e => u.there b o e (by simp)) u.tups u.frzs u.tbls (fun m' hm => by
    obtain ⟨o', es', ep', ho', r'⟩ := hm
    rw [ho] at ho'; cases ho'
    exact ⟨_, es', ep', hL, r'⟩) hok I.bare
theorem Inv.call {g' : Array GenState} {t' : Nat} {d' : Drawn} {ch : List Addr} (I : Inv X pins σ H s) (u : Un (frs X.stack) ch H H' s.heap h') (hok : HOk X.prog X.w H' h') (hg : AllBare g')
    (hch : ∀ b ∈ ch, (b ∈ X.ex ∨ X.s_0.heap.objs.size ≤ b) ∧ b ≠ X.env.locals ∧ (∀ x c, X.env.cells.lookup x = some c → c ≠ b) ∧ ∀ p ∈ X.pn ++ pins, p.1 ≠ b) :
    Inv X pins σ H' { s with heap := h', gens := g', drawn := d', toks := t' } := by
  obtain ⟨m, ⟨o, es, ep, ho, r⟩, _⟩ := id I.loc
  obtain ⟨sl, hL⟩ := u.any ho I.free fun z => (hch _ z).2.1 rfl
  exact I.step (ch := ch) hch (fun b o hL hb hc e n => u.keep b o e n (fun z => (List.mem_cons.mp (I.stkSub b z)).elim hL hb) hc) (fun b o _ _ hc e n => u.any e n hc) (fun b o hc e n => u.free b o e n hc) (fun b o hc e => u.there b o e hc) u.tups u.frzs u.tbls (fun m' hm => by
    obtain ⟨o', es', ep', ho', r'⟩ := hm
    rw [ho] at ho'; cases ho'
    exact ⟨_, es', ep', hL, r'⟩) hok hg
theorem Inv.turned {t' : Nat} {it : Addr} (I : Inv X pins σ H s) (k : ∀ b o, b ≠ it → s.heap.get? b = some o → h'.get? b = some o) (hn : H it = none) (hL : it ≠ X.env.locals)
    (h1 : it ∈ X.ex ∨ X.s_0.heap.objs.size ≤ it) (h2 : ∀ x c, X.env.cells.lookup x = some c → c ≠ it) (h3 : ∀ p ∈ X.pn ++ pins, p.1 ≠ it) : Inv X pins σ H { s with heap := h', toks := t' } := by
  have nit : ∀ b u, H b = some u → b ≠ it := fun b u e z => by rw [z, hn] at e; cases e
  refine I.step (g' := s.gens) (d' := s.drawn) (ch := [it]) (fun b hb => ?_) (fun b o _ _ hc e _ => k b o (fun z => hc (by simp [z])) e) (fun b o _ _ hc e _ => ⟨o.slots, k b o (fun z => hc (by simp [z])) e⟩) (fun _ _ _ _ n => n)
    (fun b o hc e => ⟨o, k b o (fun z => hc (by simp [z])) e⟩) (fun _ _ e => e) (fun _ _ _ e => e) (fun b ps e => ⟨#[], by rw [e]; simp⟩) (fun m hm => ?_) (fun b u e => ?_) I.bare
  · have e : b = it := by simpa using hb
    subst e
    exact ⟨h1, hL, h2, h3⟩
  · obtain ⟨o, es, ep, ho, r⟩ := hm
    exact ⟨o, es, ep, k _ o (Ne.symm hL) ho, r⟩
  · refine (I.hok b u e).stay (fun c v hc q => k c v ?_ q) (fun _ q => q) fun _ _ q => q
    rcases hc with z | z
    · rw [z]; exact nit b u e
    · exact nit c _ z
theorem Inv.tok (I : Inv X pins σ H s) (t : Nat) : Inv X pins σ H { s with toks := t } := I.un (h' := s.heap) (t' := t) Un.refl I.hok
theorem Inv.kept {t' : Nat} (I : Inv X pins σ H s) (k : ∀ b u, s.heap.get? b = some u → h'.get? b = some u) : Inv X pins σ H { s with heap := h', toks := t' } := I.un (Un.kept k) (I.hok.kept k)
theorem Inv.laid {a : Addr} {o : HO} {t' : Nat} (I : Inv X pins σ H s) (k : ∀ b u, s.heap.get? b = some u → h'.get? b = some u) (hp : s.heap.objs.size ≤ a) (new : ObjOk X.prog X.w (upd H a o) h' a o) :
    Inv X pins σ (upd H a o) { s with heap := h', toks := t' } := I.un (Un.laid k hp (I.hok.fresh hp)) (I.hok.laid k hp new)
theorem Inv.write {x e : Addr} {o : HO} {t' : Nat} (I : Inv X pins σ H s) (mu : Mut (H x)) (he : e = x ∨ H e = some (.own x)) (k : ∀ b u, b ≠ e → s.heap.get? b = some u → h'.get? b = some u) (heo : ∃ u, h'.get? e = some u)
    (new : ObjOk X.prog X.w (upd H x o) h' x o) : Inv X pins σ (upd H x o) { s with heap := h', toks := t' } := I.un (Un.write mu he k heo) (I.hok.write mu he k heo new)
theorem Inv.weak {σ' : List (Option V)} (I : Inv X pins σ H s) (hl : σ'.length = σ.length) (w : ∀ (i : Nat) v, σ'[i]? = some (some v) → σ[i]? = some (some v)) : Inv X pins σ' H s :=
  ⟨I.ok, I.os, I.bare, I.base, let ⟨m, hn, hl'⟩ := I.loc; ⟨m, hn, fun i x v e1 e2 e3 => hl' i x v e1 (w i v e2) e3⟩, I.cell, I.free, I.freeC, I.pin, I.hok, hl.trans I.len⟩
theorem Inv.pins_of {pins' : List (Addr × Obj)} (I : Inv X pins σ H s) (h : ∀ p ∈ pins', s.heap.get? p.1 = some p.2 ∧ H p.1 = none ∧ p.1 ≠ X.env.locals ∧ p.1 ∉ X.fs ∧ ∀ v, p.2.data ≠ .cell v) : Inv X pins' σ H s :=
  ⟨I.ok, I.os, I.bare, I.base, I.loc, I.cell, I.free, I.freeC, fun p hp => (List.mem_append.mp hp).elim (fun z => I.pin p (List.mem_append_left _ z)) (h p), I.hok, I.len⟩
theorem nodup_ix {N : List Str} (hN : N.Nodup) {i j : Nat} {x : Str} (a : N[i]? = some x) (b : N[j]? = some x) : i = j := by
  obtain ⟨h1, e1⟩ := List.getElem?_eq_some_iff.mp a
  obtain ⟨h2, e2⟩ := List.getElem?_eq_some_iff.mp b
  exact (List.getElem_inj hN).mp (e1.trans e2.symm)
theorem store_ok2 {M : Model} {A : Around} {E : Value → Shared → Prop} {i : Nat} {x : Str} {v : V} {u : Value} {Q : Unit → Shared → Prop} (I : Inv X pins σ H s) (hN : X.N.Nodup) (hi : X.N[i]? = some x) (hx : Loc X.env.scope x) (r : RelV v u)
    (h : ∀ s', Inv X pins (σ.set i (some v)) H s' → (∃ a, Heap.SameBut a s.heap s'.heap ∧ (a = X.env.locals ∨ X.env.cells.lookup x = some a)) → Q () s') (hf : X.fn x = true ∨ X.env.scope.names.lookup x = some .local := by first | exact .inl rfl | exact .inr rfl | assumption) : wpAny M A (storeName X.env x u) Q E s := by
  obtain ⟨m, hn, hl⟩ := id I.loc
  have hcls : (X.env.scope.kind == .class || (X.env.scope.kind == .module && X.env.locals != X.env.globals)) = false := by rw [I.ok.kind]; rfl
  have hiσ : i < σ.length := by rw [I.len]; exact (List.getElem?_eq_some_iff.mp hi).1
  have cne := I.cne
  have tracked : ∀ {a : Addr} {h' : Heap}, (∃ o, s.heap.get? a = some o ∧ H a = none) → Heap.SameBut a s.heap h' → HOk X.prog X.w H h' := fun {a h'} ha hs b ob e => by
    obtain ⟨_, _, hfree⟩ := ha
    refine (I.hok b ob e).stay (fun c w' hc q => (hs.2 c ?_).trans q) (fun _ q => q) fun _ _ q => q
    rintro rfl
    rcases hc with rfl | hc
    · rw [hfree] at e; cases e
    · rw [hfree] at hc; cases hc
  rcases hx with hk | hk
  · refine wpAny_storeName_local hk hn (fun h' hn' hs => ?_) hcls
    obtain ⟨oL, _, _, hoL, _⟩ := id hn
    refine h _ ⟨I.ok, I.os, I.bare, ⟨fun b o e n hb hx => ?_, fun b o e n hb hx => ?_, I.base.free, fun b o e hx => ?_, I.base.tups, I.base.frzs, I.base.tbls⟩, ⟨_, hn', fun j y v' e1 e2 e3 => ?_⟩, fun y c e => ?_, I.free, I.freeC, fun p hp => ?_, tracked ⟨oL, hoL, I.free⟩ hs, by simpa using I.len⟩ ⟨_, hs, .inl rfl⟩
    · exact (hs.2 b (Nat.ne_of_lt (Nat.lt_of_lt_of_le (Heap.lt_size e) I.ok.above))).trans (I.base.keep b o e n hb hx)
    · obtain ⟨sl, e1⟩ := I.base.slot b o e n hb hx
      exact ⟨sl, (hs.2 b (Nat.ne_of_lt (Nat.lt_of_lt_of_le (Heap.lt_size e) I.ok.above))).trans e1⟩
    · obtain ⟨o', e1⟩ := I.base.there b o e hx
      exact ⟨o', (hs.2 b (Nat.ne_of_lt (Nat.lt_of_lt_of_le (Heap.lt_size e) I.ok.above))).trans e1⟩
    · by_cases hj : j = i
      · subst hj
        rw [hi] at e1; cases e1
        rw [List.getElem?_set_self hiσ] at e2
        cases e2
        exact ⟨u, r, .inl ⟨hk, by simp⟩⟩
      · rw [List.getElem?_set_ne (Ne.symm hj)] at e2
        obtain ⟨u', r', q⟩ := hl j y v' e1 e2 e3
        refine ⟨u', r', ?_⟩
        rcases q with ⟨k, e⟩ | ⟨k, c, e, z⟩
        · refine .inl ⟨k, ?_⟩
          have : y ≠ x := fun e => hj (nodup_ix hN e1 (e ▸ hi))
          simp [this, e]
        · exact .inr ⟨k, c, e, z.sameBut hs (cne y c e)⟩
    · obtain ⟨w', z⟩ := I.cell y c e
      exact ⟨w', z.sameBut hs (cne y c e)⟩
    · obtain ⟨e, n, ne, nf, d⟩ := I.pin p hp
      exact ⟨(hs.2 p.1 ne).trans e, n, ne, nf, d⟩
  · have hfn : X.fn x = true := by
      rcases hf with z | z
      · exact z
      · rw [z] at hk; cases hk
    obtain ⟨c, hc⟩ := I.ok.has x (.inl hk)
    obtain ⟨w', z⟩ := I.cell x c hc
    refine wpAny_storeName_cell I.ok.kind hk hc z (fun h' hc' hs => ?_)
    obtain ⟨oc, hoc, hocd⟩ := id z
    refine h { s with heap := h' } ⟨I.ok, I.os, I.bare, ⟨fun b o e n hb hx => ?_, fun b o e n hb hx => ?_, I.base.free, fun b o e hx => ?_, I.base.tups, I.base.frzs, I.base.tbls⟩, ⟨m, hn.sameBut hs (Ne.symm (cne x c hc)), fun j y v' e1 e2 e3 => ?_⟩, fun y c' e => ?_, I.free, I.freeC, fun p hp => ?_, tracked ⟨oc, hoc, I.freeC x c hc⟩ hs, by simpa using I.len⟩ ⟨c, hs, .inr hc⟩
    · exact (hs.2 b (Nat.ne_of_lt (Nat.lt_of_lt_of_le (Heap.lt_size e) (I.ok.cab x c hfn hc)))).trans (I.base.keep b o e n hb hx)
    · obtain ⟨sl, e1⟩ := I.base.slot b o e n hb hx
      exact ⟨sl, (hs.2 b (Nat.ne_of_lt (Nat.lt_of_lt_of_le (Heap.lt_size e) (I.ok.cab x c hfn hc)))).trans e1⟩
    · obtain ⟨o', e1⟩ := I.base.there b o e hx
      exact ⟨o', (hs.2 b (Nat.ne_of_lt (Nat.lt_of_lt_of_le (Heap.lt_size e) (I.ok.cab x c hfn hc)))).trans e1⟩
    · by_cases hj : j = i
      · subst hj
        rw [hi] at e1; cases e1
        rw [List.getElem?_set_self hiσ] at e2
        cases e2
        exact ⟨u, r, .inr ⟨.inl hk, c, hc, hc'⟩⟩
      · rw [List.getElem?_set_ne (Ne.symm hj)] at e2
        obtain ⟨u', r', q⟩ := hl j y v' e1 e2 e3
        refine ⟨u', r', ?_⟩
        rcases q with q | ⟨k, c', e, z'⟩
        · exact .inl q
        · refine .inr ⟨k, c', e, z'.sameBut hs ?_⟩
          rintro rfl
          exact hj (nodup_ix hN e1 (I.ok.inj _ _ _ e hc ▸ hi))
    · by_cases hcc : c' = c
      · subst hcc; exact ⟨_, hc'⟩
      · obtain ⟨w2, z2⟩ := I.cell y c' e
        exact ⟨w2, z2.sameBut hs hcc⟩
    · obtain ⟨e, n, ne, nf, d⟩ := I.pin p hp
      refine ⟨(hs.2 p.1 ?_).trans e, n, ne, nf, d⟩
      intro q
      rw [q, hoc] at e
      have q' : oc = p.2 := Option.some.inj e
      exact d w' (by rw [← q']; exact hocd)
theorem store_ok {M : Model} {A : Around} {E : Value → Shared → Prop} {i : Nat} {x : Str} {v : V} {u : Value} {Q : Unit → Shared → Prop} (I : Inv X pins σ H s) (hN : X.N.Nodup) (hi : X.N[i]? = some x) (hx : Loc X.env.scope x) (r : RelV v u)
    (h : ∀ s', Inv X pins (σ.set i (some v)) H s' → Q () s') (hf : X.fn x = true ∨ X.env.scope.names.lookup x = some .local := by first | exact .inl rfl | exact .inr rfl | assumption) : wpAny M A (storeName X.env x u) Q E s :=
  store_ok2 I hN hi hx r (fun s' I' _ => h s' I') hf
theorem Inv.call' {s' : Shared} {ch : List Addr} (I : Inv X pins σ H s) (ho : s'.os = s.os) (u : Un (frs X.stack) ch H H' s.heap s'.heap) (hok : HOk X.prog X.w H' s'.heap) (hg : AllBare s'.gens)
    (hch : ∀ b ∈ ch, (b ∈ X.ex ∨ X.s_0.heap.objs.size ≤ b) ∧ b ≠ X.env.locals ∧ (∀ x c, X.env.cells.lookup x = some c → c ≠ b) ∧ ∀ p ∈ X.pn ++ pins, p.1 ≠ b) : Inv X pins σ H' s' := by
  obtain ⟨h', g', d', t', o'⟩ := s'
  have e : o' = s.os := ho
  subst e
  exact I.call (g' := g') (t' := t') (d' := d') u hok hg hch
end
abbrev XK := Value → Option Addr → Hp → Prop
abbrev St := List (Option V)
abbrev VK := V → Hp → Prop
abbrev TE := St → Hp → VK → Prop
abbrev TT := St → Hp → (Bool → Hp → Prop) → Prop
abbrev TA := St → Hp → (List V → Hp → Prop) → Prop
structure Ends where
  nx : St → Hp → Prop
  rt : VK
  bk : St → Hp → Prop := fun _ _ => False
  ct : St → Hp → Prop := fun _ _ => False
abbrev TS := Ends → St → Hp → Prop
def EP (X : Cx) (pins : List (Addr × Obj)) (σ : St) (Q : VK) (u : Value) (s' : Shared) : Prop := ∃ v H', Inv X pins σ H' s' ∧ RelV v u ∧ Q v H'
def TP (X : Cx) (pins : List (Addr × Obj)) (σ : St) (Q : Bool → Hp → Prop) (b : Bool) (s' : Shared) : Prop := ∃ H', Inv X pins σ H' s' ∧ Q b H'
def AP (X : Cx) (pins : List (Addr × Obj)) (σ : St) (Q : List V → Hp → Prop) (us : List Value) (s' : Shared) : Prop := ∃ vs H', Inv X pins σ H' s' ∧ Vals vs us ∧ Q vs H'
def SP (X : Cx) (pins : List (Addr × Obj)) (D : Ends) (f : Flow) (s' : Shared) : Prop :=
  match f with
  | .next => ∃ σ' H', Inv X pins σ' H' s' ∧ D.nx σ' H'
  | .brk => ∃ σ' H', Inv X pins σ' H' s' ∧ D.bk σ' H'
  | .cont => ∃ σ' H', Inv X pins σ' H' s' ∧ D.ct σ' H'
  | .ret u => ∃ v σ' H', Inv X pins σ' H' s' ∧ RelV v u ∧ D.rt v H'
def PE (X : Cx) (e : Expr) (t : TE) : Prop :=
  ∀ (pins : List (Addr × Obj)) (s : Shared) (σ : St) (H : Hp) (Q : VK), Inv X pins σ H s → t σ H Q → wpAny (model X.prog X.w) X.A (eval e X.env) (EP X pins σ Q) X.xe s
def PT (X : Cx) (e : Expr) (t : TT) : Prop :=
  ∀ (pins : List (Addr × Obj)) (s : Shared) (σ : St) (H : Hp) (Q : Bool → Hp → Prop), Inv X pins σ H s → t σ H Q → wpAny (model X.prog X.w) X.A (isTrue e X.env (eval e X.env)) (TP X pins σ Q) X.xe s
def PW (X : Cx) (e : Expr) (t : TT) : Prop :=
  ∀ (whole : Sem Value) (pins : List (Addr × Obj)) (s : Shared) (σ : St) (H : Hp) (Q : Bool → Hp → Prop), Inv X pins σ H s → t σ H Q → wpAny (model X.prog X.w) X.A (isTrue e X.env whole) (TP X pins σ Q) X.xe s
theorem PW.pt {X : Cx} {e : Expr} {t : TT} (h : PW X e t) : PT X e t := h _
def PA (X : Cx) (es : List Expr) (t : TA) : Prop :=
  ∀ (pos : Pos) (pins : List (Addr × Obj)) (s : Shared) (σ : St) (H : Hp) (Q : List V → Hp → Prop), Inv X pins σ H s → t σ H Q → wpAny (model X.prog X.w) X.A (spliced (backTo pos (starEach es X.env))) (AP X pins σ Q) X.xe s
def PS (X : Cx) (st : Stmt) (t : TS) : Prop :=
  ∀ (pins : List (Addr × Obj)) (s : Shared) (σ : St) (H : Hp) (D : Ends), Inv X pins σ H s → t D σ H → wpAny (model X.prog X.w) X.A (exec st X.env) (SP X pins D) X.xe s
def PSs (X : Cx) (st : List Stmt) (t : TS) : Prop :=
  ∀ (pins : List (Addr × Obj)) (s : Shared) (σ : St) (H : Hp) (D : Ends), Inv X pins σ H s → t D σ H → wpAny (model X.prog X.w) X.A (execs st X.env) (SP X pins D) X.xe s
theorem thn {α : Type} {t : Sem α} {Q Q' : α → Shared → Prop} {M : Model} {A : Around} {E : Value → Shared → Prop} {s : Shared} (h : wpAny M A t Q E s) (hQ : ∀ a s, Q a s → Q' a s) : wpAny M A t Q' E s := wpAny_mono h hQ fun _ _ x => x
end L2
namespace L2
open PySem PySem.Spec PyProof.Rows
section
variable {X : Cx}
theorem bin {a b : Expr} {ta tb : TE} (ha : PE X a ta) (hb : PE X b tb) {pins : List (Addr × Obj)} {s : Shared} {σ : St} {H : Hp} {R : V → V → Hp → Prop} (I : Inv X pins σ H s) (h : ta σ H fun x H1 => tb σ H1 fun y H2 => R x y H2)
    {α : Type} {Q : α → Shared → Prop} {f : Value → Value → Sem α}
    (hf : ∀ v u s2 x y H2, Inv X pins σ H2 s2 → RelV x v → RelV y u → R x y H2 → wpAny (model X.prog X.w) X.A (f v u) Q X.xe s2) :
    wpAny (model X.prog X.w) X.A (eval a X.env) (fun v s₁ => wpAny (model X.prog X.w) X.A (eval b X.env) (fun u s₂ => wpAny (model X.prog X.w) X.A (f v u) Q X.xe s₂) X.xe s₁) X.xe s := by
  refine thn (ha pins s σ H _ I h) fun v s1 ⟨x, H1, I1, r1, q1⟩ => ?_
  refine thn (hb pins s1 σ H1 _ I1 q1) fun u s2 ⟨y, H2, I2, r2, q2⟩ => ?_
  exact hf v u s2 x y H2 I2 r1 r2 q2
def tVar (i : Nat) : TE := fun σ H Q => ∃ v, σ[i]? = some (some v) ∧ Q v H
def tC (v : V) : TE := fun _ H Q => Q v H
theorem pe_var {i : Nat} {x : Str} {pos : Pos} (hN : X.N[i]? = some x) (hv : Vis X.env.scope x) (hd : (x == ("__debug__" : Str)) = false := by decide) (hcd : (x == ("__classdict__" : Str)) = false := by decide) : PE X (.Name x pos) (tVar i) := by
  intro pins s σ H Q I h
  obtain ⟨v, e, h⟩ := h
  obtain ⟨m, hn, hl⟩ := I.loc
  obtain ⟨u, r, l⟩ := hl i x v hN e hv
  have fin : EP X pins σ Q u s := ⟨v, H, I, r, h⟩
  rcases l with ⟨hk, hm⟩ | ⟨hk, c, hc, hcell⟩
  · exact wpAny_Name (wpAny_loadName_local I.ok.kind hk hn hm fin) hd
  · rcases hk with hk | hk
    · exact wpAny_Name (wpAny_loadName_cell I.ok.kind hk hc hcell fin) hd
    · exact wpAny_Name (wpAny_loadName_free I.ok.kind hk hc hcell fin hcd) hd
theorem pe_int {i j pos} : PE X (.Constant (.int i) j pos) (tC (.int i)) := fun _ _ _ H _ I h => wpAny_Constant_int ⟨.int i, H, I.tok _, ⟨_, rfl⟩, h⟩
theorem pe_non {j pos} : PE X (.Constant .none j pos) (tC .non) := fun _ _ _ H _ I h => Constant_none ⟨.non, H, I, rfl, h⟩
def Gl (X : Cx) (x : Str) : Prop := X.env.kindOf x = some .globalImplicit
theorem ld_glob {E : Value → Shared → Prop} {pins : List (Addr × Obj)} {s : Shared} {σ : St} {H : Hp} {x : Str} {u : Value} {pos : Pos} {Q : Value → Shared → Prop} (I : Inv X pins σ H s) (hg : Gl X x) (hm : X.mg x = some u) (h : Q u s)
    (hd : (x == ("__debug__" : Str)) = false := by decide) : wpAny (model X.prog X.w) X.A (eval (.Name x pos) X.env) Q E s :=
  Calls.Name_function_global I.ok.kind hg (Calls.loadGlobal_global (by rw [I.ok.glob]; exact I.mod.glob.keeps I.bk) hm h) hd
theorem ld_blt {E : Value → Shared → Prop} {pins : List (Addr × Obj)} {s : Shared} {σ : St} {H : Hp} {x : Str} {u : Value} {pos : Pos} {Q : Value → Shared → Prop} (I : Inv X pins σ H s) (hg : Gl X x) (hm : X.mg x = none) (hv : bootBuiltins x = some u) (h : Q u s)
    (hn : x ≠ "__name__" := by decide) (hd : (x == ("__debug__" : Str)) = false := by decide) : wpAny (model X.prog X.w) X.A (eval (.Name x pos) X.env) Q E s := by
  obtain ⟨mb, h1, h2⟩ := I.mod.blt
  exact Calls.Name_function_global I.ok.kind hg (Calls.loadGlobal_builtin (by rw [I.ok.glob]; exact I.mod.glob.keeps I.bk) hm (by rw [I.ok.blt]; exact h1.keeps I.bk) ((h2 x hn).trans hv) h) hd
theorem pe_glob {x : Str} {v : V} {u : Value} {pos : Pos} (hg : Gl X x) (hm : X.mg x = some u) (r : RelV v u) (hd : (x == ("__debug__" : Str)) = false := by decide) : PE X (.Name x pos) (tC v) :=
  fun _ _ _ H _ I h => ld_glob I hg hm ⟨v, H, I, r, h⟩ hd
variable {a b : Expr} {ta tb : TE} {pos : Pos}
def PC (X : Cx) (op : CmpOp) (a b : Expr) (t : TE) : Prop :=
  ∀ (pins : List (Addr × Obj)) (s : Shared) (σ : St) (H : Hp) (Q : VK), Inv X pins σ H s → t σ H Q →
    wpAny (model X.prog X.w) X.A (eval a X.env) (fun v s₁ => wpAny (model X.prog X.w) X.A (eval b X.env) (fun u s₂ => wpAny (model X.prog X.w) X.A (compareOp op v u) (EP X pins σ Q) X.xe s₂) X.xe s₁) X.xe s
theorem nobehind (b : Expr) {op : CmpOp} (h : op ≠ .In) (h2 : op ≠ .NotIn) : behindInMarks op b = false := by
  have e1 : (op == CmpOp.In) = false := by cases op <;> first | rfl | exact absurd rfl h
  have e2 : (op == CmpOp.NotIn) = false := by cases op <;> first | rfl | exact absurd rfl h2
  cases b <;> simp [behindInMarks, e1, e2]
def tIsN (ta : TE) : TE := fun σ H Q => ta σ H fun x H1 => Q (.bl (decide (x = .non))) H1
theorem RelV.none_iff {x : V} {v : Value} (r : RelV x v) : (v == Value.none) = decide (x = .non) := by
  cases x with
  | non => cases r; rfl
  | bl _ => cases r; rfl
  | int _ => obtain ⟨t, rfl⟩ := r; rfl
  | str _ => obtain ⟨t, rfl⟩ := r; rfl
  | byt _ => obtain ⟨t, rfl⟩ := r; rfl
  | flt _ => obtain ⟨t, rfl⟩ := r; rfl
  | ref _ => cases r; rfl
  | ty _ => cases r; rfl
theorem pc_isN {j pos'} (ha : PE X a ta) : PC X .Is a (.Constant .none j pos') (tIsN ta) := by
  intro pins s σ H Q I h
  refine thn (ha pins s σ H _ I h) fun v s1 ⟨x, H1, I1, r1, q1⟩ => ?_
  exact Constant_none (is_none_gen ⟨.bl _, H1, I1, by rw [r1.none_iff]; rfl, q1⟩)
def tB (t : TE) : TT := fun σ H Q => t σ H fun x H1 => ∃ c, x = .bl c ∧ Q c H1
theorem pe_cmp {op : CmpOp} {t : TE} (h : PC X op a b t) (h1 : behindInMarks op b = false := by first | exact nobehind _ (by decide) (by decide) | rfl) : PE X (.Compare a [op] [b] pos) t := fun pins s σ H Q I hw => wpAny_Compare1 (h pins s σ H Q I hw) h1
theorem pt_cmp {op : CmpOp} {t : TE} (h : PC X op a b t) (h1 : behindInMarks op b = false := by first | exact nobehind _ (by decide) (by decide) | rfl) : PT X (.Compare a [op] [b] pos) (tB t) := by
  intro pins s σ H Q I hw
  refine wpAny_isTrue_Compare1 (thn (h pins s σ H _ I hw) fun v s1 h1 => thn h1 fun u s2 h2 => thn h2 fun c s3 ⟨x, H1, I1, r1, q1⟩ => ?_) h1
  obtain ⟨d, rfl, q⟩ := q1
  cases r1
  exact wpAny_truthy_bool ⟨H1, I1, q⟩
theorem pt_val {e : Expr} {t : TE} (h : PE X e t) (he : ∀ whole, isTrue e X.env whole = (do let v ← whole; standAt e.pos; holding [v] (truthy v)) := by intro _; rfl) : PT X e (tB t) := by
  intro pins s σ H Q I hw
  refine isTrue_plain (thn (h pins s σ H _ I hw) fun v s1 ⟨x, H1, I1, r1, q1⟩ => ?_) (he _)
  obtain ⟨d, rfl, q⟩ := q1
  cases r1
  exact wpAny_truthy_bool ⟨H1, I1, q⟩
variable {tA tB' : TT} {rest : List Expr}
def tAnd (t u : TT) : TT := fun σ H Q => t σ H fun c H1 => if c = true then u σ H1 Q else Q false H1
def tOr (t u : TT) : TT := fun σ H Q => t σ H fun c H1 => if c = true then Q true H1 else u σ H1 Q
def tNot (t : TT) : TT := fun σ H Q => t σ H fun c H1 => Q (!c) H1
theorem pw_and1 (ha : PT X a tA) : PW X (.BoolOp .And [a] pos) tA := by
  intro wh pins s σ H Q I h
  refine isTrue_and (thn (ha pins s σ H Q I h) fun c s1 e => ?_)
  cases c with
  | true => exact isTrue_and_nil e
  | false => exact e
theorem pw_or1 (ha : PT X a tA) : PW X (.BoolOp .Or [a] pos) tA := by
  intro wh pins s σ H Q I h
  refine isTrue_or (thn (ha pins s σ H Q I h) fun c s1 e => ?_)
  cases c with
  | false => exact isTrue_or_nil e
  | true => exact e
theorem pw_and (ha : PT X a tA) (hb : PW X (.BoolOp .And (b :: rest) pos) tB') : PW X (.BoolOp .And (a :: b :: rest) pos) (tAnd tA tB') := by
  intro wh pins s σ H Q I h
  refine isTrue_and (thn (ha pins s σ H _ I h) fun c s1 ⟨H1, I1, q1⟩ => ?_)
  cases c with
  | true => exact hb wh pins s1 σ H1 Q I1 q1
  | false => exact ⟨H1, I1, q1⟩
theorem pw_or (ha : PT X a tA) (hb : PW X (.BoolOp .Or (b :: rest) pos) tB') : PW X (.BoolOp .Or (a :: b :: rest) pos) (tOr tA tB') := by
  intro wh pins s σ H Q I h
  refine isTrue_or (thn (ha pins s σ H _ I h) fun c s1 ⟨H1, I1, q1⟩ => ?_)
  cases c with
  | true => exact ⟨H1, I1, q1⟩
  | false => exact hb wh pins s1 σ H1 Q I1 q1
theorem pt_not (ha : PT X a tA) : PT X (.UnaryOp .Not a pos) (tNot tA) := by
  intro pins s σ H Q I h
  exact isTrue_not (ha pins s σ H (fun c H1 => Q (!c) H1) I h)
def tAndV (ta tb : TE) : TE := fun σ H Q => ta σ H fun x H1 => ∃ c, x = .bl c ∧ if c = true then tb σ H1 Q else Q (.bl false) H1
def tOrV (ta tb : TE) : TE := fun σ H Q => ta σ H fun x H1 => ∃ c, x = .bl c ∧ if c = true then Q (.bl true) H1 else tb σ H1 Q
def tNotV (ta : TE) : TE := fun σ H Q => ta σ H fun x H1 => ∃ c, x = .bl c ∧ Q (.bl (!c)) H1
theorem pe_one {op} {t : TE} (h : PE X a t) : PE X (.BoolOp op [a] pos) t := fun pins s σ H Q I hw => BoolOp_one (h pins s σ H Q I hw)
theorem pe_and (ha : PE X a ta) (hb : PE X (.BoolOp .And (b :: rest) pos) tb) : PE X (.BoolOp .And (a :: b :: rest) pos) (tAndV ta tb) := by
  intro pins s σ H Q I h
  refine BoolOp_and (thn (ha pins s σ H _ I h) fun v s1 ⟨x, H1, I1, r1, q1⟩ => ?_)
  obtain ⟨c, rfl, q1⟩ := q1
  cases r1
  refine wpAny_truthy_bool ?_
  cases c with
  | true => exact hb pins s1 σ H1 Q I1 q1
  | false => exact ⟨.bl false, H1, I1, rfl, q1⟩
theorem pe_or (ha : PE X a ta) (hb : PE X (.BoolOp .Or (b :: rest) pos) tb) : PE X (.BoolOp .Or (a :: b :: rest) pos) (tOrV ta tb) := by
  intro pins s σ H Q I h
  refine BoolOp_or (thn (ha pins s σ H _ I h) fun v s1 ⟨x, H1, I1, r1, q1⟩ => ?_)
  obtain ⟨c, rfl, q1⟩ := q1
  cases r1
  refine wpAny_truthy_bool ?_
  cases c with
  | false => exact hb pins s1 σ H1 Q I1 q1
  | true => exact ⟨.bl true, H1, I1, rfl, q1⟩
theorem pe_not (ha : PE X a ta) : PE X (.UnaryOp .Not a pos) (tNotV ta) := by
  intro pins s σ H Q I h
  refine UnaryOp_ (thn (ha pins s σ H _ I h) fun v s1 ⟨x, H1, I1, r1, q1⟩ => ?_)
  obtain ⟨c, rfl, q1⟩ := q1
  cases r1
  exact not_of (wpAny_truthy_bool ⟨.bl (!c), H1, I1, rfl, q1⟩)
def tIf (t : TT) (ta tb : TE) : TE := fun σ H Q => t σ H fun c H1 => if c = true then ta σ H1 Q else tb σ H1 Q
theorem pe_ifExp {c : Expr} (hc : PT X c tA) (ha : PE X a ta) (hb : PE X b tb) : PE X (.IfExp c a b pos) (tIf tA ta tb) := by
  intro pins s σ H Q I h
  refine wpAny_IfExp (thn (hc pins s σ H _ I h) fun d s1 ⟨H1, I1, q1⟩ => ?_)
  cases d with
  | true => exact ha pins s1 σ H1 Q I1 q1
  | false => exact hb pins s1 σ H1 Q I1 q1
end
end L2
namespace L2
open PySem PySem.Spec PyProof.Rows
def SqL (K : PySem.W.Frag) (H : Hp) (a : Addr) (xs : List V) : Prop :=
  Rd H a (.lst xs) ∨
    ∃ (o : Obj) (its : Array Value) (n : Nat), K.lookup a = some o ∧ o.cls = .type "list" ∧ o.dict = none ∧ o.data = .seq its n ∧ its.size ≤ sizeLine ∧ Vals xs its.toList
def SqT (K : PySem.W.Frag) (H : Hp) (a : Addr) (xs : List V) : Prop :=
  Rd H a (.tup xs) ∨
    ∃ (o : Obj) (its : Array Value) (n : Nat), K.lookup a = some o ∧ o.cls = .type "tuple" ∧ o.data = .seq its n ∧ its.size ≤ sizeLine ∧ Vals xs its.toList
def absV : Value → Option V
  | .none => some .non
  | .bool b => some (.bl b)
  | .int i _ => some (.int i)
  | .str x _ => some (.str x)
  | .bytes b _ => some (.byt b)
  | .float b _ => some (.flt b)
  | .ref a => some (.ref a)
  | .type n => some (.ty n)
  | _ => none
theorem RelV.abs {x : V} {u : Value} (r : RelV x u) : absV u = some x := by
  cases x with
  | non => cases r; rfl
  | bl _ => cases r; rfl
  | int _ => obtain ⟨t, rfl⟩ := r; rfl
  | str _ => obtain ⟨t, rfl⟩ := r; rfl
  | byt _ => obtain ⟨t, rfl⟩ := r; rfl
  | flt _ => obtain ⟨t, rfl⟩ := r; rfl
  | ref _ => cases r; rfl
  | ty _ => cases r; rfl
theorem RelV.inj {x y : V} {u : Value} (r : RelV x u) (q : RelV y u) : x = y := Option.some.inj (r.abs.symm.trans q.abs)
theorem Vals.inj : ∀ {xs ys : List V} {us : List Value}, Vals xs us → Vals ys us → xs = ys
  | _, _, _, .nil, .nil => rfl
  | _, _, _, .cons r t, .cons r' t' => by rw [r.inj r', Vals.inj t t']
section
variable {X : Cx} {pins : List (Addr × Obj)} {σ : St} {H : Hp} {s : Shared} {a : Addr} {xs ys : List V}
theorem SqL.of {K : PySem.W.Frag} (h : H a = some (.lst xs)) : SqL K H a xs := .inl (.inl h)
theorem SqT.of {K : PySem.W.Frag} (h : H a = some (.tup xs)) : SqT K H a xs := .inl (.inl h)
theorem Inv.list (I : Inv X pins σ H s) (h : SqL X.K H a xs) : ∃ its : List Value, Vals xs its ∧ PlainL s.heap a its.toArray ∧ xs.length ≤ sizeLine := by
  rcases h with h | ⟨o, its, n, hk, hc, hd, hs, hz, r⟩
  · obtain ⟨z, its, n, r, e⟩ := h.ok I.hok
    exact ⟨its, r, ⟨_, n, e, rfl, rfl, rfl⟩, z⟩
  · refine ⟨its.toList, r, ⟨o, n, I.kIn a o hk, hc, hd, by simpa using hs⟩, ?_⟩
    have e := r.length
    simp only [Array.length_toList] at e
    omega
theorem Inv.tuple (I : Inv X pins σ H s) (h : SqT X.K H a xs) : ∃ its : List Value, Vals xs its ∧ IsTup s.heap a its.toArray ∧ xs.length ≤ sizeLine := by
  rcases h with h | ⟨o, its, n, hk, hc, hs, hz, r⟩
  · obtain ⟨z, its, r, p⟩ := h.ok I.hok
    exact ⟨its, r, p, z⟩
  · refine ⟨its.toList, r, ⟨o, I.kIn a o hk, hc, n, by simpa using hs⟩, ?_⟩
    have e := r.length
    simp only [Array.length_toList] at e
    omega
theorem Inv.list_inj (I : Inv X pins σ H s) (h : SqL X.K H a xs) (h' : SqL X.K H a ys) : xs = ys := by
  obtain ⟨its, r, ⟨o, n, e, _, _, d⟩, _⟩ := I.list h
  obtain ⟨its', r', ⟨o', n', e', _, _, d'⟩, _⟩ := I.list h'
  rw [e] at e'; cases e'
  rw [d] at d'
  injection d' with d1 _
  have : its = its' := by simpa using congrArg Array.toList d1
  subst this
  exact r.inj r'
end
abbrev Cx.wish (X : Cx) (E : Value → Shared → Prop) : Cx := { X with xe := E }
abbrev Cx.nox (X : Cx) : Cx := X.wish fun _ _ => False
theorem Cx.Ok.wish {X : Cx} (ok : X.Ok) (E : Value → Shared → Prop) : (X.wish E).Ok :=
  ⟨ok.mod, ok.kind, ok.glob, ok.blt, ok.above, ok.inj, ok.has, ok.cab, ok.hd, ok.frames, ok.stk, ok.exf, ok.bs, ok.bsz, ok.noex, ok.exfs, ok.funs, ok.frf⟩
theorem Cx.Ok.unwish {X : Cx} {E : Value → Shared → Prop} (ok : (X.wish E).Ok) : X.Ok :=
  ⟨ok.mod, ok.kind, ok.glob, ok.blt, ok.above, ok.inj, ok.has, ok.cab, ok.hd, ok.frames, ok.stk, ok.exf, ok.bs, ok.bsz, ok.noex, ok.exfs, ok.funs, ok.frf⟩
section
variable {X : Cx} {pins : List (Addr × Obj)} {σ : St} {H : Hp} {s : Shared} {E : Value → Shared → Prop}
theorem Inv.wish (I : Inv X pins σ H s) (E : Value → Shared → Prop) : Inv (X.wish E) pins σ H s := ⟨I.ok.wish E, I.os, I.bare, I.base, I.loc, I.cell, I.free, I.freeC, I.pin, I.hok, I.len⟩
theorem Inv.unwish (I : Inv (X.wish E) pins σ H s) : Inv X pins σ H s := ⟨I.ok.unwish, I.os, I.bare, I.base, I.loc, I.cell, I.free, I.freeC, I.pin, I.hok, I.len⟩
theorem SP.unwish {D : Ends} {f : Flow} {s' : Shared} (h : SP (X.wish E) pins D f s') : SP X pins D f s' := by
  cases f with
  | next => obtain ⟨σ', H', I, q⟩ := h; exact ⟨σ', H', I.unwish, q⟩
  | brk => obtain ⟨σ', H', I, q⟩ := h; exact ⟨σ', H', I.unwish, q⟩
  | cont => obtain ⟨σ', H', I, q⟩ := h; exact ⟨σ', H', I.unwish, q⟩
  | ret u => obtain ⟨v, σ', H', I, r, q⟩ := h; exact ⟨v, σ', H', I.unwish, r, q⟩
theorem PSs.nox {st : List Stmt} {t : TS} (h : PSs X.nox st t) : PSs X st t := fun pins s σ H D I hw =>
  wpAny_mono (h pins s σ H D (I.wish _) hw) (fun _ _ q => q.unwish) fun _ _ z => False.elim z
end
section
variable {X : Cx} {st : Stmt} {rest : List Stmt} {t u : TS} {e : Expr} {te : TE} {pos : Pos}
def tNext : TS := fun D σ H => D.nx σ H
def tSeq (t u : TS) : TS := fun D σ H => t { D with nx := u D } σ H
theorem pss_nil : PSs X [] tNext := fun _ _ σ H _ I h => wpAny_execs_nil ⟨σ, H, I, h⟩
theorem pss_cons (h1 : PS X st t) (h2 : PSs X rest u) : PSs X (st :: rest) (tSeq t u) := by
  intro pins s σ H D I h
  refine wpAny_execs_cons (thn (h1 pins s σ H { D with nx := u D } I h) fun f s1 q => ?_)
  cases f with
  | next =>
    obtain ⟨σ', H', I', q⟩ := q
    exact h2 pins s1 σ' H' D I' q
  | ret v => exact q
  | brk => exact q
  | cont => exact q
theorem pss_one (h1 : PS X st t) : PSs X [st] t := by
  intro pins s σ H D I h
  refine wpAny_execs_cons (thn (h1 pins s σ H D I h) fun f s1 q => ?_)
  cases f with
  | next => exact wpAny_execs_nil q
  | ret v => exact q
  | brk => exact q
  | cont => exact q
theorem Inv.quiet {pins : List (Addr × Obj)} {σ : St} {H : Hp} {s : Shared} (I : Inv X pins σ H s) : interactive X.env = false := by simp [interactive, I.ok.kind]
def tDrop (te : TE) : TS := fun D σ H => te σ H fun _ H1 => D.nx σ H1
theorem ps_expr (he : PE X e te) (hs : swapsWith e none pos.line X.env = pure false := by rfl) : PS X (.Expr e pos) (tDrop te) := by
  intro pins s σ H D I h
  exact wpAny_Expr_any (thn (he pins s σ H _ I h) fun v s1 ⟨x, H1, I1, r1, q1⟩ => ⟨σ, H1, I1, q1⟩) I.quiet hs
def tRet (te : TE) : TS := fun D σ H => te σ H D.rt
theorem ps_ret (he : PE X e te) : PS X (.Return (some e) pos) (tRet te) := by
  intro pins s σ H D I h
  exact wpAny_Return_some (thn (he pins s σ H _ I h) fun v s1 ⟨x, H1, I1, r1, q1⟩ => ⟨x, σ, H1, I1, r1, q1⟩)
def tRetN : TS := fun D _ H => D.rt .non H
theorem ps_retN : PS X (.Return none pos) tRetN := fun _ _ σ H _ I h => wpAny_Return_none ⟨.non, σ, H, I, rfl, h⟩
def tIfS (c : TT) (t u : TS) : TS := fun D σ H => c σ H fun b H1 => if b = true then t D σ H1 else u D σ H1
theorem ps_if {c : Expr} {a b : List Stmt} {tc : TT} (hc : PT X c tc) (ha : PSs X a t) (hb : PSs X b u) : PS X (.If c a b pos) (tIfS tc t u) := by
  intro pins s σ H D I h
  refine wpAny_If (thn (hc pins s σ H _ I h) fun d s1 ⟨H1, I1, q1⟩ => ?_)
  cases d with
  | true => exact ha pins s1 σ H1 D I1 q1
  | false => exact hb pins s1 σ H1 D I1 q1
end
abbrev TG := V → St → Hp → (St → Hp → Prop) → Prop
abbrev TGs := List V → St → Hp → (St → Hp → Prop) → Prop
def PG (X : Cx) (target : Expr) (t : TG) : Prop :=
  ∀ (pins : List (Addr × Obj)) (s : Shared) (σ : St) (H : Hp) (v : V) (u : Value) (Q : St → Hp → Prop), Inv X pins σ H s → RelV v u → t v σ H Q →
    wpAny (model X.prog X.w) X.A (assign target X.env u) (fun _ s' => ∃ σ' H', Inv X pins σ' H' s' ∧ Q σ' H') X.xe s
def PGs (X : Cx) (ts : List Expr) (t : TGs) : Prop :=
  ∀ (pins : List (Addr × Obj)) (s : Shared) (σ : St) (H : Hp) (vs : List V) (us : List Value) (Q : St → Hp → Prop), Inv X pins σ H s → Vals vs us → t vs σ H Q →
    wpAny (model X.prog X.w) X.A (assignInOrder ((assignEach ts X.env).map (·.2)) us) (fun _ s' => ∃ σ' H', Inv X pins σ' H' s' ∧ Q σ' H') X.xe s
section
variable {X : Cx} {pos : Pos}
def gName (i : Nat) : TG := fun v σ H Q => Q (σ.set i (some v)) H
theorem pg_name {i : Nat} {x : Str} (hN : X.N.Nodup) (hi : X.N[i]? = some x) (hx : Loc X.env.scope x) (hf : X.fn x = true ∨ X.env.scope.names.lookup x = some .local := by first | exact .inl rfl | exact .inr rfl | assumption) : PG X (.Name x pos) (gName i) := by
  intro pins s σ H v u Q I r h
  exact wpAny_assign_Name (store_ok I hN hi hx r (fun s' I' => ⟨_, H, I', h⟩) hf)
def gNil : TGs := fun vs σ H Q => vs = [] ∧ Q σ H
def gCons (t : TG) (u : TGs) : TGs := fun vs σ H Q => ∃ v r, vs = v :: r ∧ t v σ H fun σ' H' => u r σ' H' Q
theorem pgs_nil : PGs X [] gNil := by
  intro pins s σ H vs us Q I r h
  obtain ⟨e, h⟩ := h
  subst e
  cases r
  exact assignInOrder_nil ⟨σ, H, I, h⟩
theorem pgs_cons {e : Expr} {es : List Expr} {t : TG} {u : TGs} (h1 : PG X e t) (h2 : PGs X es u)
    (hs : (assignEach (e :: es) X.env).map (·.2) = assign e X.env :: (assignEach es X.env).map (·.2) := by rfl) : PGs X (e :: es) (gCons t u) := by
  intro pins s σ H vs us Q I r h
  obtain ⟨v, vr, e1, h⟩ := h
  subst e1
  cases r with
  | cons r rr =>
    rw [hs]
    refine assignInOrder_cons (thn (h1 pins s σ H _ _ _ I r h) fun _ s1 ⟨σ1, H1, I1, q1⟩ => ?_)
    exact h2 pins s1 σ1 H1 _ _ Q I1 rr q1
def gTup (K : PySem.W.Frag) (n : Nat) (t : TGs) : TG := fun v σ H Q => ∃ a xs, v = .ref a ∧ SqT K H a xs ∧ xs.length = n ∧ t xs σ H Q
theorem pg_tup {es : List Expr} {k : Nat} {t : TGs} {n : Nat} (hc : X.calm = true) (h : PGs X es t)
    (hn : (assignEach es X.env).length = n := by rfl) (hst : (assignEach es X.env).findIdx? (·.1) = none := by rfl) : PG X (.Tuple es k pos) (gTup X.K n t) := by
  intro pins s σ H v u Q I r hw
  obtain ⟨a, xs, e1, hq, hl, hw⟩ := hw
  subst e1
  cases r
  obtain ⟨its, rv, ht, hz⟩ := I.tuple hq
  refine assign_Tuple_tuple (I.ok.hd hc) ht (by simp [hn, ← hl, rv.length]) hst fun h' hx => ?_
  have I1 : Inv X pins σ H { s with heap := h' } := I.kept (t' := s.toks) fun b o e => hx b o (Nat.ne_of_lt (Heap.lt_size e)) e
  exact h pins _ σ H xs _ Q I1 (by simpa using rv) hw
def tAsg (te : TE) (g : TG) : TS := fun D σ H => te σ H fun x H1 => g x σ H1 D.nx
theorem ps_set {i : Nat} {x : Str} {e : Expr} {te : TE} {pos' : Pos} (hN : X.N.Nodup) (hi : X.N[i]? = some x) (hx : Loc X.env.scope x) (he : PE X e te) (hs : swapsWith e (some (.Name x pos')) pos.line X.env = pure false := by rfl) (hf : X.fn x = true ∨ X.env.scope.names.lookup x = some .local := by first | exact .inl rfl | exact .inr rfl | assumption) :
    PS X (.Assign [.Name x pos'] e pos) (tAsg te (gName i)) := by
  intro pins s σ H D I h
  refine wpAny_Assign_Name (thn (he pins s σ H _ I h) fun v s1 ⟨y, H1, I1, r1, q1⟩ => ?_) hs
  exact store_ok I1 hN hi hx r1 (fun s2 I2 => ⟨_, H1, I2, q1⟩) hf
end
section
variable {X : Cx} {pos : Pos}
def tWhile (c : TT) (tb : TS) : TS := fun D σ H => ∃ W : Nat → St → Hp → Prop, (∃ m, W m σ H) ∧ ∀ m σ H, W m σ H →
  c σ H fun b H1 => if b = true then ∃ N : St → Hp → Prop, (∀ σ' H', N σ' H' → ∃ m', m' < m ∧ W m' σ' H') ∧ tb { D with nx := N, ct := N, bk := D.nx } σ H1 else D.nx σ H1
theorem ps_while {c : Expr} {body : List Stmt} {tc : TT} {tb : TS} (hp : PassesOwn (model X.prog X.w) X.A X.env X.xe) (hc : PT X c tc) (hb : PSs X body tb) : PS X (.While c body [] pos) (tWhile tc tb) := by
  intro pins s σ H D I h
  obtain ⟨W, ⟨m0, w0⟩, turn⟩ := h
  refine wpAny_While (codeAny_whileLoop (fun n s' => ∃ σ' H', Inv X pins σ' H' s' ∧ W n σ' H') ?_ m0 ⟨σ, H, I, w0⟩)
  rintro n s1 ⟨σ1, H1, I1, w1⟩
  refine wpAny_passesOwn hp (thn (hc pins s1 σ1 H1 _ I1 (turn n σ1 H1 w1)) fun b s2 ⟨H2, I2, q2⟩ => ?_)
  cases b with
  | true =>
    obtain ⟨N, hN, q2⟩ := q2
    rw [if_pos rfl]
    refine wpAny_passesOwn hp (thn (hb pins s2 σ1 H2 _ I2 q2) fun f s3 q3 => ?_)
    cases f with
    | next =>
      obtain ⟨σ3, H3, I3, n3⟩ := q3
      obtain ⟨m', hm, w3⟩ := hN σ3 H3 n3
      exact ⟨m', hm, σ3, H3, I3, w3⟩
    | cont =>
      obtain ⟨σ3, H3, I3, n3⟩ := q3
      obtain ⟨m', hm, w3⟩ := hN σ3 H3 n3
      exact ⟨m', hm, σ3, H3, I3, w3⟩
    | brk => exact q3
    | ret v => exact q3
  | false =>
    rw [if_neg Bool.false_ne_true]
    exact wpAny_execs_nil ⟨σ1, H2, I2, q2⟩
end
structure It where
  go : Nat → Hp → Prop
  yld : Nat → Hp → V → Hp → Prop
  stop : Nat → Hp → Prop
def FpOk (X : Cx) (pins : List (Addr × Obj)) (H : Hp) (b : Addr) : Prop :=
  H b = none ∧ b ≠ X.env.locals ∧ b ∉ X.fs ∧ (b ∈ X.ex ∨ X.s_0.heap.objs.size ≤ b) ∧ (∀ x c, X.env.cells.lookup x = some c → c ≠ b) ∧ ∀ p ∈ X.pn ++ pins, p.1 ≠ b
theorem Inv.fpOk {X : Cx} {pins : List (Addr × Obj)} {σ : St} {H H' : Hp} {s : Shared} {b : Addr} (I : Inv X pins σ H s) (hb : s.heap.objs.size ≤ b) (hn : H' b = none) : FpOk X pins H' b := by
  refine ⟨hn, Nat.ne_of_gt (Nat.lt_of_lt_of_le I.lt hb), I.nofs hb, .inr (Nat.le_trans I.sz hb), fun x c e z => ?_, fun p hp z => ?_⟩
  · obtain ⟨v, q⟩ := I.cell x c e
    exact absurd (Nat.lt_of_lt_of_le q.lt (by rw [z]; exact hb)) (Nat.lt_irrefl _)
  · exact absurd (Nat.lt_of_lt_of_le (Heap.lt_size (I.pin p hp).1) (by rw [z]; exact hb)) (Nat.lt_irrefl _)
structure Turn (P : Program) (w : World) (K : PySem.W.Frag) (tg : Expr) (J : It) (fp : List Addr) (it : Addr) (tn : Nat → Heap → Prop) : Prop where
  mem : it ∈ fp
  obj : ∀ i h, tn i h → ∀ b ∈ fp, ∃ o, h.get? b = some o ∧ ∀ v, o.data ≠ .cell v
  keep : ∀ i h h', tn i h → (∀ b ∈ fp, ∀ o, h.get? b = some o → h'.get? b = some o) → tn i h'
  item : ∀ (X : Cx), X.prog = P → X.w = w → X.K = K → X.calm = true → ∀ (i : Nat) (pins : List (Addr × Obj)) (s : Shared) (σ : St) (H : Hp) (E : Value → Shared → Prop), Inv X pins σ H s → (∀ b ∈ fp, FpOk X pins H b) → tn i s.heap → J.go i H →
    wpAny (model P w) X.A (pyNext (.ref it)) (fun r s1 => ∃ u, r = some u ∧
      wpAny (model P w) X.A (letOwnedTupleGo tg (.ref it) u) (fun _ s2 => ∃ x H', Inv X pins σ H' s2 ∧ RelV x u ∧ J.yld i H x H' ∧ tn (i + 1) s2.heap ∧ ∀ b ∈ fp, H' b = none) E s1) E s
  done : ∀ (X : Cx), X.prog = P → X.w = w → X.K = K → X.calm = true → ∀ (i : Nat) (pins : List (Addr × Obj)) (s : Shared) (σ : St) (H : Hp) (E : Value → Shared → Prop), Inv X pins σ H s → (∀ b ∈ fp, FpOk X pins H b) → tn i s.heap → J.stop i H →
    wpAny (model P w) X.A (pyNext (.ref it)) (fun r s1 => r = none ∧ Inv X pins σ H s1) E s
  self : ∀ (A : Around) (i : Nat) (s : Shared) (Q : Value → Shared → Prop) (E : Value → Shared → Prop), tn i s.heap → Q (.ref it) s → wpAny (model P w) A (pyIter (.ref it)) Q E s
abbrev TI := St → Hp → (It → Hp → Prop) → Prop
def PIE (X : Cx) (pins : List (Addr × Obj)) (σ : St) (tg : Expr) (R : It → Hp → Prop) (itv : Value) (s2 : Shared) : Prop :=
  ∃ (it : Addr) (fp : List Addr) (tn : Nat → Heap → Prop) (J : It) (H' : Hp), itv = .ref it ∧ Inv X pins σ H' s2 ∧ Turn X.prog X.w X.K tg J fp it tn ∧ tn 0 s2.heap ∧ (∀ b ∈ fp, FpOk X pins H' b) ∧ R J H'
def PI (X : Cx) (tg iter : Expr) (wi : TI) : Prop :=
  ∀ (pins : List (Addr × Obj)) (s : Shared) (σ : St) (H : Hp) (R : It → Hp → Prop), Inv X pins σ H s → wi σ H R →
    wpAny (model X.prog X.w) X.A (eval iter X.env) (fun v s1 => wpAny (model X.prog X.w) X.A (pyIter v) (PIE X pins σ tg R) X.xe s1) X.xe s
theorem go_of {M : Model} {A : Around} {E : Value → Shared → Prop} {s : Shared} {tg : Expr} {it : Addr} {u : Value} {o : Obj} {n : String} {vs : Array Value} {Q : Unit → Shared → Prop} (ho : s.heap.get? it = some o) (hc : o.cls = .type n) (hd : o.data = .fields vs)
    (hn : ["enumerate", "zip", "dict_itemiterator", "dict_reverseitemiterator", "odict_iterator", "itertools.zip_longest", "itertools.pairwise"].contains n = false) (hQ : Q () s) : wpAny M A (letOwnedTupleGo tg (.ref it) u) Q E s := by
  unfold letOwnedTupleGo
  cases tg <;> first
    | exact wpAny_pure hQ
    | (cases u <;> first
        | exact wpAny_pure hQ
        | (refine wpAny_bind (wpAny_load ho ?_)
           rw [hc, hd]
           show wpAny M A (if (["enumerate", "zip", "dict_itemiterator", "dict_reverseitemiterator", "odict_iterator", "itertools.zip_longest", "itertools.pairwise"].contains n && vs[0]? == some (rawInt _)) = true then _ else _) Q E s
           rw [if_neg (by intro h; rw [hn, Bool.false_and] at h; cases h)]
           exact wpAny_pure hQ))
def Itl (K : PySem.W.Frag) (a : Addr) : It :=
  ⟨fun i H => ∃ xs x, SqL K H a xs ∧ xs[i]? = some x, fun i H x H' => H' = H ∧ ∀ xs, SqL K H a xs → xs[i]? = some x, fun i H => ∃ xs, SqL K H a xs ∧ xs.length ≤ i⟩
theorem turn_list {P : Program} {w : World} {K : PySem.W.Frag} {tg : Expr} (a it : Addr) : Turn P w K tg (Itl K a) [it] it (fun i h => h.IsListIter it a i) where
  mem := by simp
  obj := fun i h st b hb => by
    have e : b = it := by simpa using hb
    subst e
    obtain ⟨o, e, c, d⟩ := st
    exact ⟨o, e, fun v z => by rw [d] at z; cases z⟩
  keep := fun i h h' st k => st.at fun o e => k it (by simp) o e
  item := by
    intro X hP hw hK hc i pins s σ H E I hf st hg
    subst hP hw hK
    obtain ⟨xs, x, hq, hx⟩ := hg
    obtain ⟨its, rv, p, hz⟩ := I.list hq
    obtain ⟨u, hu, ru⟩ := rv.get hx
    obtain ⟨f0, f1, f2, f3, f4, f5⟩ := hf it (by simp)
    refine wpAny_pyNext_list_item st p.isList (x := u) (by simpa using hu) fun h' st' sb => ?_
    have I1 : Inv X pins σ H { s with heap := h' } := I.turned (t' := s.toks) (fun b o hb e => (sb.2 b hb).trans e) f0 f1 f3 f4 f5
    obtain ⟨o, e, c, d⟩ := id st'
    exact ⟨u, rfl, go_of (s := { s with heap := h' }) e c d (by decide) ⟨x, H, I1, ru, ⟨rfl, fun ys hy => by rw [I.list_inj hy hq]; exact hx⟩, st', fun b hb => (hf b hb).1⟩⟩
  done := by
    intro X hP hw hK hc i pins s σ H E I hf st hg
    subst hP hw hK
    obtain ⟨xs, hq, hx⟩ := hg
    obtain ⟨its, rv, p, hz⟩ := I.list hq
    obtain ⟨f0, f1, f2, f3, f4, f5⟩ := hf it (by simp)
    have hl := rv.length
    exact wpAny_pyNext_list_end (I.ok.hd hc) st p.isList (by simp; omega) fun h' eb => ⟨rfl, I.turned (t' := s.toks) (fun b o hb e => eb b o hb e) f0 f1 f3 f4 f5⟩
  self := fun _ _ _ _ _ st h => wpAny_pyIter_listiter st h
end L2
namespace L2
open PySem PySem.Spec PyProof.Rows
section
variable {X : Cx} {tg : Expr}
def iList (K : PySem.W.Frag) (tl : TE) : TI := fun σ H R => tl σ H fun x H1 => ∃ a, x = .ref a ∧ (∃ xs, SqL K H1 a xs) ∧ R (Itl K a) H1
theorem pi_list {l : Expr} {tl : TE} (hl : PE X l tl) : PI X tg l (iList X.K tl) := by
  intro pins s σ H R I h
  refine thn (hl pins s σ H _ I h) fun v s1 ⟨x, H1, I1, r1, q1⟩ => ?_
  obtain ⟨a, e, ⟨xs, hq⟩, q⟩ := q1
  subst e
  cases r1
  obtain ⟨its, rv, p, hz⟩ := I1.list hq
  refine wpAny_pyIter_list p.isList ?_
  refine ⟨s1.heap.objs.size, [s1.heap.objs.size], _, _, H1, rfl, I1.kept (t' := s1.toks) fun b o e => Heap.get?_push_of_some _ e, turn_list a _, ⟨_, Heap.get?_push_size _ rfl, rfl, rfl⟩, fun b hb => ?_, q⟩
  have e : b = s1.heap.objs.size := by simpa using hb
  subst e
  exact I1.fpOk (Nat.le_refl _) (I1.hok.fresh (Nat.le_refl _))
def tFor (wi : TI) (g : TG) (tb : TS) : TS := fun D σ H => wi σ H fun J H1 => ∃ W : Nat → Nat → St → Hp → Prop, (∃ m, W 0 m σ H1) ∧ ∀ i m σ H, W i m σ H →
  (J.stop i H ∧ D.nx σ H) ∨ (J.go i H ∧ ∃ N : St → Hp → Prop, (∀ σ' H', N σ' H' → ∃ m', m' < m ∧ W (i + 1) m' σ' H') ∧ ∀ x H', J.yld i H x H' → g x σ H' fun σ2 H2 => tb { D with nx := N, ct := N, bk := D.nx } σ2 H2)
def pinsAt (fp : List Addr) (h : Heap) : List (Addr × Obj) := fp.filterMap fun b => (h.get? b).map fun o => (b, o)
theorem mem_pinsAt {fp : List Addr} {h : Heap} {b : Addr} {o : Obj} (hb : b ∈ fp) (e : h.get? b = some o) : (b, o) ∈ pinsAt fp h := List.mem_filterMap.mpr ⟨b, hb, by rw [e]; rfl⟩
theorem of_pinsAt {fp : List Addr} {h : Heap} {p : Addr × Obj} (hp : p ∈ pinsAt fp h) : p.1 ∈ fp ∧ h.get? p.1 = some p.2 := by
  obtain ⟨b, hb, e⟩ := List.mem_filterMap.mp hp
  cases q : h.get? b with
  | none => rw [q] at e; cases e
  | some o =>
    rw [q] at e
    have e' : (b, o) = p := Option.some.inj e
    subst e'
    exact ⟨hb, q⟩
theorem Inv.pinned {pins : List (Addr × Obj)} {σ : St} {H : Hp} {s : Shared} {fp : List Addr} (I : Inv X pins σ H s) (hf : ∀ b ∈ fp, FpOk X pins H b) (ho : ∀ b ∈ fp, ∃ o, s.heap.get? b = some o ∧ ∀ v, o.data ≠ .cell v) : Inv X (pins ++ pinsAt fp s.heap) σ H s :=
  I.pins_of fun p hp => (List.mem_append.mp hp).elim (fun z => I.pin p (List.mem_append_right _ z)) fun z => by
    obtain ⟨hb, e⟩ := of_pinsAt z
    obtain ⟨f0, f1, f2, _⟩ := hf p.1 hb
    obtain ⟨o, e', d⟩ := ho p.1 hb
    rw [e] at e'; cases e'
    exact ⟨e, f0, f1, f2, d⟩
theorem Inv.unpinned {pins pl : List (Addr × Obj)} {σ : St} {H : Hp} {s : Shared} (I : Inv X (pins ++ pl) σ H s) : Inv X pins σ H s := I.pins_of fun p hp => I.pin p (List.mem_append_right _ (List.mem_append_left _ hp))
theorem ps_for {iter : Expr} {body : List Stmt} {wi : TI} {g : TG} {tb : TS} {pos : Pos} (hp : PassesOwn (model X.prog X.w) X.A X.env X.xe) (hc : X.calm = true) (hi : PI X tg iter wi) (hg : PG X tg g) (hb : PSs X body tb)
    (hs : ∀ x, foldedSetIterable iter X.env x = pure x := by intro _; rfl) : PS X (.For tg iter body [] pos) (tFor wi g tb) := by
  intro pins s σ H D I h
  refine wpAny_For (thn (hi pins s σ H _ I h) fun v s1 h1 => thn h1 fun itv s2 h2 => ?_) hs
  obtain ⟨it, fp, tn, J, H2, e, I2, T, st2, f2, W, ⟨m0, w0⟩, turn⟩ := h2
  subst e
  -- what stays true of the iterator's objects through the loop
  have stat : ∀ {H' : Hp}, (∀ b ∈ fp, H' b = none) → ∀ b ∈ fp, FpOk X pins H' b := fun hn b hb => ⟨hn b hb, (f2 b hb).2⟩
  refine codeAny_forLoop_any (fun n s' => ∃ i σ' H', Inv X pins σ' H' s' ∧ tn i s'.heap ∧ (∀ b ∈ fp, H' b = none) ∧ W i n σ' H') ?_ m0 ⟨0, σ, H2, I2, st2, fun b hb => (f2 b hb).1, w0⟩
  rintro n s3 ⟨i, σ3, H3, I3, st3, fr3, w3⟩
  rcases turn i n σ3 H3 w3 with ⟨stop, qn⟩ | ⟨go, N, hN, step⟩
  · refine wpAny_passesOwn hp (thn (T.done X rfl rfl rfl hc i pins s3 σ3 H3 X.xe I3 (stat fr3) st3 stop) fun r s4 ⟨hr, I4⟩ => ?_)
    subst hr
    exact wpAny_execs_nil ⟨σ3, H3, I4, qn⟩
  · refine wpAny_passesOwn hp (thn (T.item X rfl rfl rfl hc i pins s3 σ3 H3 X.xe I3 (stat fr3) st3 go) fun r s4 ⟨u, hr, h4⟩ => ?_)
    subst hr
    refine wpAny_passesOwn hp (thn h4 fun _ s5 ⟨x, H5, I5, r5, y5, st5, fr5⟩ => ?_)
    have I5' := I5.pinned (stat fr5) (T.obj _ _ st5)
    refine wpAny_passesOwn hp (thn (hg _ s5 σ3 H5 x u _ I5' r5 (step x H5 y5)) fun _ s6 ⟨σ6, H6, I6, q6⟩ => ?_)
    refine wpAny_passesOwn hp (thn (hb _ s6 σ6 H6 _ I6 q6) fun f s7 q7 => ?_)
    have again : ∀ {σ7 : St} {H7 : Hp}, Inv X (pins ++ pinsAt fp s5.heap) σ7 H7 s7 → N σ7 H7 → ∃ m, m < n ∧ ∃ i σ' H', Inv X pins σ' H' s7 ∧ tn i s7.heap ∧ (∀ b ∈ fp, H' b = none) ∧ W i m σ' H' := fun {σ7 H7} I7 n7 => by
      obtain ⟨m', hm, w7⟩ := hN σ7 H7 n7
      refine ⟨m', hm, i + 1, σ7, H7, I7.unpinned, T.keep _ _ _ st5 fun b hb o e => (I7.pin (b, o) (List.mem_append_right _ (List.mem_append_right _ (mem_pinsAt hb e)))).1, fun b hb => ?_, w7⟩
      obtain ⟨o, e, d⟩ := T.obj _ _ st5 b hb
      exact (I7.pin (b, o) (List.mem_append_right _ (List.mem_append_right _ (mem_pinsAt hb e)))).2.1
    cases f with
    | next => obtain ⟨σ7, H7, I7, n7⟩ := q7; exact again I7 n7
    | cont => obtain ⟨σ7, H7, I7, n7⟩ := q7; exact again I7 n7
    | brk => obtain ⟨σ7, H7, I7, q7⟩ := q7; exact ⟨σ7, H7, I7.unpinned, q7⟩
    | ret v => obtain ⟨x7, σ7, H7, I7, r7, q7⟩ := q7; exact ⟨x7, σ7, H7, I7.unpinned, r7, q7⟩
end
theorem for_list {K : PySem.W.Frag} {a : Addr} {xs : List V} {g : TG} {tb : TS} {D : Ends} {σ : St} {H : Hp} (Pv : Nat → St → Hp → Prop) (h0 : Pv 0 σ H) (hl : ∀ i σ H, i ≤ xs.length → Pv i σ H → SqL K H a xs)
    (hs : ∀ i x σ H, xs[i]? = some x → Pv i σ H → g x σ H fun σ2 H2 => tb { D with nx := Pv (i + 1), ct := Pv (i + 1), bk := D.nx } σ2 H2) (hd : ∀ σ H, Pv xs.length σ H → D.nx σ H) :
    ∃ W : Nat → Nat → St → Hp → Prop, (∃ m, W 0 m σ H) ∧ ∀ i m σ H, W i m σ H →
      ((Itl K a).stop i H ∧ D.nx σ H) ∨ ((Itl K a).go i H ∧ ∃ N : St → Hp → Prop, (∀ σ' H', N σ' H' → ∃ m', m' < m ∧ W (i + 1) m' σ' H') ∧ ∀ x H', (Itl K a).yld i H x H' → g x σ H' fun σ2 H2 => tb { D with nx := N, ct := N, bk := D.nx } σ2 H2) := by
  refine ⟨fun i m σ H => m = xs.length - i ∧ i ≤ xs.length ∧ Pv i σ H, ⟨xs.length, by simp, Nat.zero_le _, h0⟩, ?_⟩
  rintro i m σ H ⟨rfl, hi, p⟩
  have q := hl i σ H hi p
  by_cases hlt : i < xs.length
  · refine .inr ⟨⟨xs, xs[i], q, by simp [hlt]⟩, Pv (i + 1), fun σ' H' p' => ⟨xs.length - (i + 1), by omega, rfl, hlt, p'⟩, fun x H' y => ?_⟩
    obtain ⟨e, y⟩ := y
    subst e
    exact hs i x σ _ (y xs q) p
  · have e : i = xs.length := by omega
    subst e
    exact .inl ⟨⟨xs, q, Nat.le_refl _⟩, hd σ H p⟩
theorem while_by {c : TT} {tb : TS} {D : Ends} {σ : St} {H : Hp} (Pv : St → Hp → Prop) (μ : St → Hp → Nat) (h0 : Pv σ H)
    (hs : ∀ σ H, Pv σ H → c σ H fun b H1 => if b = true then tb { D with nx := fun σ' H' => Pv σ' H' ∧ μ σ' H' < μ σ H, ct := fun σ' H' => Pv σ' H' ∧ μ σ' H' < μ σ H, bk := D.nx } σ H1 else D.nx σ H1)
    (mono : ∀ σ H Q Q', (∀ b H1, Q b H1 → Q' b H1) → c σ H Q → c σ H Q') : tWhile c tb D σ H := by
  refine ⟨fun m σ H => m = μ σ H ∧ Pv σ H, ⟨_, rfl, h0⟩, ?_⟩
  rintro m σ H ⟨rfl, p⟩
  refine mono σ H _ _ (fun b H1 q => ?_) (hs σ H p)
  cases b with
  | true => exact ⟨_, fun σ' H' ⟨p', l⟩ => ⟨_, l, rfl, p'⟩, q⟩
  | false => exact q
end L2
namespace L2
open PySem PySem.Spec PyProof.Rows
abbrev R2 := V → V → Hp → VK → Prop
def OpR (X : Cx) (f : Value → Value → Sem Value) (r : R2) : Prop :=
  ∀ (pins : List (Addr × Obj)) (s : Shared) (σ : St) (H : Hp) (x y : V) (v u : Value) (Q : VK), Inv X pins σ H s → RelV x v → RelV y u → r x y H Q →
    wpAny (model X.prog X.w) X.A (f v u) (EP X pins σ Q) X.xe s
def CallR (X : Cx) (f : Value) (r : List V → Hp → VK → Prop) : Prop :=
  ∀ (pins : List (Addr × Obj)) (s : Shared) (σ : St) (H : Hp) (xs : List V) (us : List Value) (Q : VK), Inv X pins σ H s → Vals xs us → r xs H Q →
    wpAny (model X.prog X.w) X.A (call f us) (EP X pins σ Q) X.xe s
def TruR (X : Cx) (r : V → Hp → (Bool → Hp → Prop) → Prop) : Prop :=
  ∀ (pins : List (Addr × Obj)) (s : Shared) (σ : St) (H : Hp) (x : V) (v : Value) (Q : Bool → Hp → Prop), Inv X pins σ H s → RelV x v → r x H Q →
    wpAny (model X.prog X.w) X.A (truthy v) (TP X pins σ Q) X.xe s
def tOp (r : R2) (ta tb : TE) : TE := fun σ H Q => ta σ H fun x H1 => tb σ H1 fun y H2 => r x y H2 Q
def rI (C : Int → Int → Prop) (g : Int → Int → V) : R2 := fun x y H Q => ∃ i j, x = .int i ∧ y = .int j ∧ C i j ∧ Q (g i j) H
def rI0 (g : Int → Int → V) : R2 := fun x y H Q => ∃ i j, x = .int i ∧ y = .int j ∧ Q (g i j) H
section
variable {X : Cx} {a b c : Expr} {ta tb tc : TE} {pos : Pos}
theorem binT (ha : PE X a ta) (hb : PE X b tb) {pins : List (Addr × Obj)} {s : Shared} {σ : St} {H : Hp} {R : V → V → Hp → Prop} (I : Inv X pins σ H s)
    (h : ta σ H fun x H1 => tb σ H1 fun y H2 => R x y H2) {Q : Value → Shared → Prop} {f : Value → Value → Sem Value}
    (hf : ∀ v u s2 x y H2, Inv X pins σ H2 s2 → RelV x v → RelV y u → R x y H2 → wpAny (model X.prog X.w) X.A (f v u) Q X.xe s2) :
    wpAny (model X.prog X.w) X.A (eval a X.env) (fun v s₁ => wpAny (model X.prog X.w) X.A (eval b X.env) (fun u s₂ => wpAny (model X.prog X.w) X.A (f v u) Q X.xe s₂) X.xe s₁) X.xe s := by
  refine thn (ha pins s σ H _ I h) fun v s1 ⟨x, H1, I1, r1, q1⟩ => ?_
  refine thn (hb pins s1 σ H1 _ I1 q1) fun u s2 ⟨y, H2, I2, r2, q2⟩ => ?_
  exact hf v u s2 x y H2 I2 r1 r2 q2
theorem pe_op {op : Operator} {r : R2} (ho : OpR X (binaryOp op) r) (ha : PE X a ta) (hb : PE X b tb) : PE X (.BinOp a op b pos) (tOp r ta tb) := by
  intro pins s σ H Q I h
  exact wpAny_BinOp (binT ha hb I h fun v u s2 x y H2 I2 rx ry q => ho pins s2 σ H2 x y v u Q I2 rx ry q)
theorem opI {f : Value → Value → Sem Value} {C : Int → Int → Prop} {g : Int → Int → Int}
    (rule : ∀ (i j : Int) (t u : Tok) (s : Shared) (Q : Value → Shared → Prop) (E : Value → Shared → Prop), C i j → Q (.int (g i j) s.toks) { s with toks := s.toks + 1 } → wpAny (model X.prog X.w) X.A (f (.int i t) (.int j u)) Q E s) :
    OpR X f (rI C fun i j => .int (g i j)) := by
  intro pins s σ H x y v u Q I rx ry h
  obtain ⟨i, j, rfl, rfl, hc, q⟩ := h
  obtain ⟨t, rfl⟩ := rx
  obtain ⟨t', rfl⟩ := ry
  exact rule i j t t' s _ _ hc ⟨.int (g i j), H, I.tok _, ⟨_, rfl⟩, q⟩
theorem opI0 {f : Value → Value → Sem Value} {g : Int → Int → Int}
    (rule : ∀ (i j : Int) (t u : Tok) (s : Shared) (Q : Value → Shared → Prop) (E : Value → Shared → Prop), Q (.int (g i j) s.toks) { s with toks := s.toks + 1 } → wpAny (model X.prog X.w) X.A (f (.int i t) (.int j u)) Q E s) :
    OpR X f (rI0 fun i j => .int (g i j)) := by
  intro pins s σ H x y v u Q I rx ry h
  obtain ⟨i, j, rfl, rfl, q⟩ := h
  obtain ⟨t, rfl⟩ := rx
  obtain ⟨t', rfl⟩ := ry
  exact rule i j t t' s _ _ ⟨.int (g i j), H, I.tok _, ⟨_, rfl⟩, q⟩
theorem opB0 {f : Value → Value → Sem Value} {g : Int → Int → Bool}
    (rule : ∀ (i j : Int) (t u : Tok) (s : Shared) (Q : Value → Shared → Prop) (E : Value → Shared → Prop), Q (.bool (g i j)) s → wpAny (model X.prog X.w) X.A (f (.int i t) (.int j u)) Q E s) :
    OpR X f (rI0 fun i j => .bl (g i j)) := by
  intro pins s σ H x y v u Q I rx ry h
  obtain ⟨i, j, rfl, rfl, q⟩ := h
  obtain ⟨t, rfl⟩ := rx
  obtain ⟨t', rfl⟩ := ry
  exact rule i j t t' s _ _ ⟨.bl (g i j), H, I, rfl, q⟩
def CMul (i j : Int) : Prop := (-(2 ^ 64) < i ∧ i < 2 ^ 64) ∨ (-(2 ^ 64) < j ∧ j < 2 ^ 64)
theorem CMul.ok {i j : Int} (h : CMul i j) : IntMulOk i j := by
  rcases h with ⟨h1, h2⟩ | ⟨h1, h2⟩
  · exact .of_left (intBits_le_64 h1 h2)
  · exact .of_right (intBits_le_64 h1 h2)
theorem op_add : OpR X (binaryOp .Add) (rI0 fun i j => .int (i + j)) := opI0 fun _ _ _ _ _ _ _ q => add_int q
theorem op_sub : OpR X (binaryOp .Sub) (rI0 fun i j => .int (i - j)) := opI0 fun _ _ _ _ _ _ _ q => sub_int q
theorem op_mul : OpR X (binaryOp .Mult) (rI CMul fun i j => .int (i * j)) := opI fun _ _ _ _ _ _ _ hc q => mul_int q hc.ok
end
def scal : V → V → Bool
  | .non, .non => true | .non, .int _ => true | .int _, .non => true | .non, .bl _ => true | .bl _, .non => true | .non, .str _ => true | .str _, .non => true
  | .int _, .int _ => true | .bl _, .bl _ => true | .str _, .str _ => true | .byt _, .byt _ => true
  | .int _, .str _ => true | .str _, .int _ => true | .bl _, .str _ => true | .str _, .bl _ => true
  | _, _ => false
def rEq : R2 := fun x y H Q => scal x y = true ∧ Q (.bl (decide (x = y))) H
def rNe : R2 := fun x y H Q => scal x y = true ∧ Q (.bl (!decide (x = y))) H
theorem dec_int {i j : Int} : decide (V.int i = V.int j) = (i == j) := by
  rw [Bool.eq_iff_iff]
  simp
theorem dec_bl {i j : Bool} : decide (V.bl i = V.bl j) = (i == j) := by
  rw [Bool.eq_iff_iff]
  simp
theorem dec_str {i j : Str} : decide (V.str i = V.str j) = (i == j) := by
  rw [Bool.eq_iff_iff]
  simp
theorem dec_byt {i j : Array UInt8} : decide (V.byt i = V.byt j) = (i.toList == j.toList) := by
  rw [Bool.eq_iff_iff]
  cases i
  cases j
  simp
section
variable {X : Cx} {a b c : Expr} {ta tb tc : TE} {pos : Pos}
theorem fin_bl {pins : List (Addr × Obj)} {σ : St} {H : Hp} {s : Shared} {Q : VK} {k k' : Bool} (I : Inv X pins σ H s) (q : Q (.bl k) H) (e : k = k') : EP X pins σ Q (.bool k') s := by
  subst e
  exact ⟨.bl k, H, I, rfl, q⟩
theorem op_eq : OpR X (compareOp .Eq) rEq := by
  intro pins s σ H x y v u Q I rx ry h
  obtain ⟨hs, q⟩ := h
  cases x with
  | non =>
    cases rx
    cases y with
    | non => cases ry; exact PySem.EqNone.eq_none_none (fin_bl I q (by simp))
    | bl j => cases ry; exact PySem.EqNone.eq_none_bool (fin_bl I q (by simp))
    | int j => obtain ⟨t', rfl⟩ := ry; exact PySem.EqNone.eq_none_int (fin_bl I q (by simp))
    | str j => obtain ⟨t', rfl⟩ := ry; exact PySem.EqNone.eq_none_str (fin_bl I q (by simp))
    | _ => exact absurd (show false = true from hs) Bool.false_ne_true
  | bl i =>
    cases rx
    cases y with
    | non => cases ry; exact PySem.EqNone.eq_bool_none (fin_bl I q (by simp))
    | bl j => cases ry; exact eq_bool (fin_bl I q dec_bl)
    | str j => obtain ⟨t', rfl⟩ := ry; exact PySem.EqMixed.eq_bool_str (fin_bl I q (by simp))
    | _ => exact absurd (show false = true from hs) Bool.false_ne_true
  | int i =>
    obtain ⟨t, rfl⟩ := rx
    cases y with
    | non => cases ry; exact PySem.EqNone.eq_int_none (fin_bl I q (by simp))
    | int j => obtain ⟨t', rfl⟩ := ry; exact eq_int (fin_bl I q dec_int)
    | str j => obtain ⟨t', rfl⟩ := ry; exact PySem.EqMixed.eq_int_str (fin_bl I q (by simp))
    | _ => exact absurd (show false = true from hs) Bool.false_ne_true
  | str i =>
    obtain ⟨t, rfl⟩ := rx
    cases y with
    | non => cases ry; exact PySem.EqNone.eq_str_none (fin_bl I q (by simp))
    | bl j => cases ry; exact PySem.EqMixed.eq_str_bool (fin_bl I q (by simp))
    | int j => obtain ⟨t', rfl⟩ := ry; exact PySem.EqMixed.eq_str_int (fin_bl I q (by simp))
    | str j => obtain ⟨t', rfl⟩ := ry; exact eq_str (fin_bl I q dec_str)
    | _ => exact absurd (show false = true from hs) Bool.false_ne_true
  | byt i =>
    obtain ⟨t, rfl⟩ := rx
    cases y with
    | byt j => obtain ⟨t', rfl⟩ := ry; exact PySem.W.eq_bytes (fin_bl I q dec_byt)
    | _ => exact absurd (show false = true from hs) Bool.false_ne_true
  | _ => cases y <;> exact absurd (show false = true from hs) Bool.false_ne_true
theorem op_ne : OpR X (compareOp .NotEq) rNe := by
  intro pins s σ H x y v u Q I rx ry h
  obtain ⟨hs, q⟩ := h
  cases x with
  | non =>
    cases rx
    cases y with
    | non => cases ry; exact PySem.EqNone.ne_none_none (fin_bl I q (by simp))
    | bl j => cases ry; exact PySem.EqNone.ne_none_bool (fin_bl I q (by simp))
    | int j => obtain ⟨t', rfl⟩ := ry; exact PySem.EqNone.ne_none_int (fin_bl I q (by simp))
    | str j => obtain ⟨t', rfl⟩ := ry; exact PySem.EqNone.ne_none_str (fin_bl I q (by simp))
    | _ => exact absurd (show false = true from hs) Bool.false_ne_true
  | bl i =>
    cases rx
    cases y with
    | non => cases ry; exact PySem.EqNone.ne_bool_none (fin_bl I q (by simp))
    | bl j => cases ry; exact ne_bool (fin_bl I q (congrArg not dec_bl))
    | str j => obtain ⟨t', rfl⟩ := ry; exact PySem.EqMixed.ne_bool_str (fin_bl I q (by simp))
    | _ => exact absurd (show false = true from hs) Bool.false_ne_true
  | int i =>
    obtain ⟨t, rfl⟩ := rx
    cases y with
    | non => cases ry; exact PySem.EqNone.ne_int_none (fin_bl I q (by simp))
    | int j => obtain ⟨t', rfl⟩ := ry; exact ne_int (fin_bl I q (congrArg not dec_int))
    | str j => obtain ⟨t', rfl⟩ := ry; exact PySem.EqMixed.ne_int_str (fin_bl I q (by simp))
    | _ => exact absurd (show false = true from hs) Bool.false_ne_true
  | str i =>
    obtain ⟨t, rfl⟩ := rx
    cases y with
    | non => cases ry; exact PySem.EqNone.ne_str_none (fin_bl I q (by simp))
    | bl j => cases ry; exact PySem.EqMixed.ne_str_bool (fin_bl I q (by simp))
    | int j => obtain ⟨t', rfl⟩ := ry; exact PySem.EqMixed.ne_str_int (fin_bl I q (by simp))
    | str j => obtain ⟨t', rfl⟩ := ry; exact ne_str (fin_bl I q (congrArg not dec_str))
    | _ => exact absurd (show false = true from hs) Bool.false_ne_true
  | byt i =>
    obtain ⟨t, rfl⟩ := rx
    cases y with
    | byt j => obtain ⟨t', rfl⟩ := ry; exact PySem.W.ne_bytes (fin_bl I q (congrArg not dec_byt))
    | _ => exact absurd (show false = true from hs) Bool.false_ne_true
  | _ => cases y <;> exact absurd (show false = true from hs) Bool.false_ne_true
theorem op_lt : OpR X (compareOp .Lt) (rI0 fun i j => .bl (decide (i < j))) := opB0 fun _ _ _ _ _ _ _ q => lt_int q
theorem op_le : OpR X (compareOp .LtE) (rI0 fun i j => .bl (decide (i ≤ j))) := opB0 fun _ _ _ _ _ _ _ q => le_int q
theorem op_gt : OpR X (compareOp .Gt) (rI0 fun i j => .bl (decide (j < i))) := opB0 fun _ _ _ _ _ _ _ q => gt_int q
theorem op_ge : OpR X (compareOp .GtE) (rI0 fun i j => .bl (decide (j ≤ i))) := opB0 fun _ _ _ _ _ _ _ q => ge_int q
theorem nomark (b : Expr) {op : CmpOp} (h : op ≠ .In := by decide) (h2 : op ≠ .NotIn := by decide) : behindInMarks op b = false := by
  have e1 : (op == CmpOp.In) = false := by cases op <;> first | rfl | exact absurd rfl h
  have e2 : (op == CmpOp.NotIn) = false := by cases op <;> first | rfl | exact absurd rfl h2
  cases b <;> simp [behindInMarks, e1, e2]
theorem pe_cmpR {op : CmpOp} {r : R2} (ho : OpR X (compareOp op) r) (ha : PE X a ta) (hb : PE X b tb) (hm : behindInMarks op b = false) : PE X (.Compare a [op] [b] pos) (tOp r ta tb) := by
  intro pins s σ H Q I h
  exact wpAny_Compare1 (binT ha hb I h fun v u s2 x y H2 I2 rx ry q => ho pins s2 σ H2 x y v u Q I2 rx ry q) hm
def tTest (t : TE) : TT := fun σ H Q => t σ H fun x H' => ∃ k, x = .bl k ∧ Q k H'
theorem pt_cmpR {op : CmpOp} {r : R2} (ho : OpR X (compareOp op) r) (ha : PE X a ta) (hb : PE X b tb) (hm : behindInMarks op b = false) : PT X (.Compare a [op] [b] pos) (tTest (tOp r ta tb)) := by
  intro pins s σ H Q I h
  refine wpAny_isTrue_Compare1 (thn (ha pins s σ H _ I h) fun v s1 ⟨x, H1, I1, r1, q1⟩ => thn (hb pins s1 σ H1 _ I1 q1) fun u s2 ⟨y, H2, I2, r2, q2⟩ =>
    thn (ho pins s2 σ H2 x y v u _ I2 r1 r2 q2) fun c s3 ⟨z, H3, I3, r3, k, e, q3⟩ => ?_) hm
  subst e
  cases r3
  exact wpAny_truthy_bool ⟨H3, I3, q3⟩
def tChain (r r' : R2) (ta tb tc : TE) : TE := fun σ H Q => ta σ H fun x H1 => tb σ H1 fun y H2 => r x y H2 fun z H3 => ∃ k, z = .bl k ∧
  (if k = true then tc σ H3 fun w' H4 => r' y w' H4 Q else Q (.bl false) H3)
theorem pe_chain {op op' : CmpOp} {r r' : R2} (ho : OpR X (compareOp op) r) (ho' : OpR X (compareOp op') r') (ha : PE X a ta) (hb : PE X b tb) (hc : PE X c tc)
    (hm : lastMarks [op, op'] [b, c] = false := by with_unfolding_all rfl) : PE X (.Compare a [op, op'] [b, c] pos) (tChain r r' ta tb tc) := by
  intro pins s σ H Q I h
  refine Compare_chain (thn (ha pins s σ H _ I h) fun v s1 ⟨x, H1, I1, r1, q1⟩ => chain_link (thn (hb pins s1 σ H1 _ I1 q1) fun u s2 ⟨y, H2, I2, r2, q2⟩ =>
    thn (ho pins s2 σ H2 x y v u _ I2 r1 r2 q2) fun d s3 ⟨z, H3, I3, r3, k, e, q3⟩ => ?_)) hm
  subst e
  cases r3
  refine wpAny_truthy_bool ?_
  cases k with
  | false => exact ite_ff ⟨.bl false, H3, I3, rfl, q3⟩
  | true => exact ite_tt (chain_last (thn (hc pins s3 σ H3 _ I3 q3) fun w' s4 ⟨z', H4, I4, r4, q4⟩ => ho' pins s4 σ H4 y z' u w' Q I4 r2 r4 q4))
theorem pt_chain {op op' : CmpOp} {r r' : R2} (ho : OpR X (compareOp op) r) (ho' : OpR X (compareOp op') r') (ha : PE X a ta) (hb : PE X b tb) (hc : PE X c tc)
    (hm : lastMarks [op, op'] [b, c] = false := by with_unfolding_all rfl) : PT X (.Compare a [op, op'] [b, c] pos) (tTest (tChain r r' ta tb tc)) := by
  intro pins s σ H Q I h
  refine isTrue_chain (thn (ha pins s σ H _ I h) fun v s1 ⟨x, H1, I1, r1, q1⟩ => test_link (thn (hb pins s1 σ H1 _ I1 q1) fun u s2 ⟨y, H2, I2, r2, q2⟩ =>
    thn (ho pins s2 σ H2 x y v u _ I2 r1 r2 q2) fun d s3 ⟨z, H3, I3, r3, k, e, q3⟩ => ?_)) hm
  subst e
  cases r3
  refine wpAny_truthy_bool ?_
  cases k with
  | false =>
    obtain ⟨k', e', q'⟩ := q3
    cases e'
    exact ite_ff ⟨H3, I3, q'⟩
  | true =>
    refine ite_tt (test_last (thn (hc pins s3 σ H3 _ I3 q3) fun w' s4 ⟨z', H4, I4, r4, q4⟩ => thn (ho' pins s4 σ H4 y z' u w' _ I4 r2 r4 q4) fun d' s5 ⟨z2, H5, I5, r5, k2, e2, q5⟩ => ?_))
    subst e2
    cases r5
    exact wpAny_truthy_bool ⟨H5, I5, q5⟩
def TruV (K : PySem.W.Frag) (x : V) (H : Hp) (k : Bool) : Prop :=
  match x with
  | .non => k = false
  | .bl b => k = b
  | .int i => k = (i != 0)
  | .str y => y.length ≤ sizeLine ∧ k = ((y.length : Int) != 0)
  | .byt y => y.size ≤ sizeLine ∧ k = ((y.size : Int) != 0)
  | .ref p => (∃ xs, SqL K H p xs ∧ k = !xs.isEmpty) ∨ (∃ xs, SqT K H p xs ∧ k = !xs.isEmpty) ∨ ∃ kvs, H p = some (.dK kvs) ∧ k = !kvs.isEmpty
  | _ => False
theorem isEmpty_kv {κ : Type} {kvs : List (κ × V)} {vs : List (κ × Value)} (r : KV kvs vs) : (!vs.isEmpty) = !kvs.isEmpty := by
  cases r <;> rfl
theorem isEmpty_of {xs : List V} {its : List Value} (r : Vals xs its) : (!its.toArray.isEmpty) = !xs.isEmpty := by
  cases r <;> simp
theorem line63 : (sizeLine : Nat) < 2 ^ 63 := by rw [sizeLine_eq]; decide
theorem tru_ok : TruR X (fun x H Q => ∃ k, TruV X.K x H k ∧ Q k H) := by
  intro pins s σ H x v Q I rx h
  obtain ⟨k, e, q⟩ := h
  have hl := line63
  have hs : sizeLine = 16777216 := sizeLine_eq
  cases x with
  | non =>
    cases rx
    have e' : k = false := e
    subst e'
    exact truthy_none ⟨H, I, q⟩
  | bl b =>
    cases rx
    have e' : k = b := e
    subst e'
    exact wpAny_truthy_bool ⟨H, I, q⟩
  | int i =>
    obtain ⟨t, rfl⟩ := rx
    have e' : k = (i != 0) := e
    subst e'
    exact PySem.P.truthy_int ⟨H, I, q⟩
  | str y =>
    obtain ⟨t, rfl⟩ := rx
    obtain ⟨hy, e'⟩ : y.length ≤ sizeLine ∧ k = ((y.length : Int) != 0) := e
    subst e'
    exact PySem.P.truthy_str (by omega) ⟨H, I.tok _, q⟩
  | byt y =>
    obtain ⟨t, rfl⟩ := rx
    obtain ⟨hy, e'⟩ : y.size ≤ sizeLine ∧ k = ((y.size : Int) != 0) := e
    subst e'
    exact PySem.W.truthy_bytes (by omega) ⟨H, I.tok _, q⟩
  | ref p =>
    cases rx
    have e' : (∃ xs, SqL X.K H p xs ∧ k = !xs.isEmpty) ∨ (∃ xs, SqT X.K H p xs ∧ k = !xs.isEmpty) ∨ ∃ kvs, H p = some (.dK kvs) ∧ k = !kvs.isEmpty := e
    rcases e' with ⟨xs, hx, e'⟩ | ⟨xs, hx, e'⟩ | ⟨kvs, hx, e'⟩
    · subst e'
      obtain ⟨its, r, pl, hz⟩ := I.list hx
      have hlen := r.length
      exact wpAny_truthy_list pl.isList (by simp only [List.size_toArray]; omega) ⟨H, I.tok _, by rw [isEmpty_of r]; exact q⟩
    · subst e'
      obtain ⟨its, r, pl, hz⟩ := I.tuple hx
      have hlen := r.length
      exact truthy_tuple pl (by simp only [List.size_toArray]; omega) ⟨H, I.tok _, by rw [isEmpty_of r]; exact q⟩
    · subst e'
      obtain ⟨hz, hS, vs, r, m⟩ : kvs.length ≤ sizeLine ∧ (p == sysModules) = false ∧ ∃ vs, KV kvs vs ∧ s.heap.DictOf (mixKind X.prog X.w) p vs := I.hok p _ hx
      have hlen : kvs.length = vs.length := Paired.length r
      exact wpAny_truthy_dict hS m (by omega) ⟨H, I.tok _, by rw [isEmpty_kv r]; exact q⟩
  | _ => exact (show False from e).elim
theorem vals1 {x : V} {us : List Value} (r : Vals [x] us) : ∃ u, us = [u] ∧ RelV x u := by
  cases r with
  | cons r1 r2 => cases r2; exact ⟨_, rfl, r1⟩
def LenV (K : PySem.W.Frag) (x : V) (H : Hp) (n : Nat) : Prop :=
  match x with
  | .str y => y.length ≤ sizeLine ∧ n = y.length
  | .byt y => y.size ≤ sizeLine ∧ n = y.size
  | .ref p => (∃ xs, SqL K H p xs ∧ n = xs.length) ∨ ∃ xs, SqT K H p xs ∧ n = xs.length
  | _ => False
theorem call_len : CallR X (.builtin "len") (fun xs H Q => ∃ x n, xs = [x] ∧ LenV X.K x H n ∧ Q (.int n) H) := by
  intro pins s σ H xs us Q I r h
  obtain ⟨x, n, rfl, e, q⟩ := h
  obtain ⟨u, rfl, rx⟩ := vals1 r
  have hl := line63
  have hs : sizeLine = 16777216 := sizeLine_eq
  cases x with
  | str y =>
    obtain ⟨t, rfl⟩ := rx
    obtain ⟨hy, e'⟩ : y.length ≤ sizeLine ∧ n = y.length := e
    subst e'
    exact len_str (by omega) ⟨.int _, H, I.tok _, ⟨_, rfl⟩, q⟩
  | byt y =>
    obtain ⟨t, rfl⟩ := rx
    obtain ⟨hy, e'⟩ : y.size ≤ sizeLine ∧ n = y.size := e
    subst e'
    exact PySem.W.len_bytes (by omega) ⟨.int _, H, I.tok _, ⟨_, rfl⟩, q⟩
  | ref p =>
    cases rx
    have e' : (∃ xs, SqL X.K H p xs ∧ n = xs.length) ∨ ∃ xs, SqT X.K H p xs ∧ n = xs.length := e
    rcases e' with ⟨xs, hx, e'⟩ | ⟨xs, hx, e'⟩
    · subst e'
      obtain ⟨its, r', pl, hz⟩ := I.list hx
      have hlen := r'.length
      exact Calls.call_len_list pl.isList (by simp only [List.size_toArray]; omega) ⟨.int xs.length, H, I.tok _, ⟨_, by simp only [List.size_toArray]; rw [hlen]⟩, q⟩
    · subst e'
      obtain ⟨its, r', pl, hz⟩ := I.tuple hx
      have hlen := r'.length
      exact len_tuple pl (by simp only [List.size_toArray]; omega) ⟨.int xs.length, H, I.tok _, ⟨_, by simp only [List.size_toArray]; rw [hlen]⟩, q⟩
  | _ => exact (show False from e).elim
end
end L2
namespace L2
open PySem PySem.Spec PyProof.Rows
structure ObjM (h : Heap) (x dx C : Addr) (mA : Str → Option Value) : Prop where
  obj : h.get? x = some (PySem.W.instObj C dx)
  ns : h.Ns1 dx mA
  ne : dx ≠ x
theorem lookIn_ns {h : Heap} {dx : Addr} {mA : Str → Option Value} (n : h.Ns1 dx mA) : ∃ od, h.get? dx = some od ∧ ∀ name, PySem.W.lookIn name od = some (mA name) := by
  obtain ⟨o, es, ep, ho, hd, hk, _, hm⟩ := n
  refine ⟨o, ho, fun name => ?_⟩
  have e := hm name
  unfold nsFind findBy at e
  rw [← Array.find?_toList] at e
  unfold PySem.W.lookIn
  rw [hd]
  dsimp only
  split
  · rename_i y q
    rw [q] at e
    exact congrArg some e
  · rename_i q
    rw [q] at e
    have a : es.toList.any (·.refKey) = false := by
      rw [List.any_eq_false]
      intro y hy
      obtain ⟨z, t, hkey⟩ := hk y (Array.mem_toList_iff.mp hy)
      simp [DictEntry.refKey, hkey]
    have a' : ¬ es.toList.any (·.refKey) = true := by rw [a]; exact Bool.false_ne_true
    rw [if_neg a']
    exact congrArg some e
theorem ObjM.look {h : Heap} {x dx C : Addr} {mA : Str → Option Value} (I : ObjM h x dx C mA) : ∃ od, PySem.W.InstAt h x (PySem.W.instObj C dx) C (some od) ∧ ∀ name, PySem.W.lookIn name od = some (mA name) :=
  let ⟨od, ho, hl⟩ := lookIn_ns I.ns
  ⟨od, ⟨I.obj, rfl, rfl, ho⟩, hl⟩
section
variable {prog : Program} {w : World} {A : Around} {E : Value → Shared → Prop} {s : Shared} {K : PySem.W.Frag} {x dx C f : Addr} {mA : Str → Option Value} {name : Str} {v : Value}
theorem get_map {expr : Bool} {Q : Value → Shared → Prop} (X : K.In s.heap) (I : ObjM s.heap x dx C mA) (hg : PySem.W.plainGet K C name = true) (hh : PySem.W.hasDictIn K C = true)
    (ha : PySem.W.findIn K (.ref C) name = some none) (hv : mA name = some v) (hv' : PySem.W.handedIn v = true) (h : Q v { s with toks := s.toks + 1 }) :
    wpAny (model prog w) A (getAttr (.ref x) name expr) Q E s := by
  obtain ⟨od, J, hl⟩ := I.look
  exact PySem.W.get_value X J (PySem.W.plainGet_of hg).1 (PySem.W.findObj_own hh ha rfl (by rw [hl, hv])) hv' h
theorem get_meth {pl : Sem Bool} {Q : Value × List Value → Shared → Prop} (X : K.In s.heap) (I : ObjM s.heap x dx C mA) (hg : PySem.W.plainGet K C name = true)
    (hf : PySem.W.findIn K (.ref C) name = some (some (.ref f))) (ht : PySem.W.isFn K (.ref f) = true) (hv : mA name = none) (h : Q (.ref f, [.ref x]) s) :
    wpAny (model prog w) A (getMethod (.ref x) name pl) Q E s := by
  obtain ⟨od, J, hl⟩ := I.look
  exact PySem.W.method_fn X J (PySem.W.plainGet_of hg).1 (PySem.W.plainGet_of hg).2 hf (beq_iff_eq.mp ht) (by show (PySem.W.lookIn name od).map (·.isSome) = some false; rw [hl, hv]; rfl) h
theorem set_map {ns : List Str} {Q : Unit → Shared → Prop} (X : K.In s.heap) (I : ObjM s.heap x dx C mA)
    (hs : PySem.W.findIn K (.ref C) "__setattr__" = some (some (.builtin "object.__setattr__"))) (hp : PySem.W.plainOver K C = true) (ht : PySem.W.takerIn K C name = some none) (hh : PySem.W.hasDictIn K C = true)
    (hw : PySem.Within mA ns) (hsz : ns.length ≤ sizeLine)
    (h : ∀ h', ObjM h' x dx C (fun y => if y = name then some v else mA y) → Heap.SameBut dx s.heap h' → Q () { s with heap := h', toks := s.toks + 2 }) :
    wpAny (model prog w) A (setAttr (.ref x) name v) Q E s := by
  obtain ⟨od, J, hl⟩ := I.look
  refine PySem.W.set_plain X J hs (PySem.W.osa_open (s := { s with toks := s.toks + 1 }) (r := none) X J hp ht fun b => ?_)
  obtain ⟨cd, hc, hd'⟩ := PySem.W.any_some hh
  have hx : s.heap.get? x = some ⟨.ref C, some dx, .plain, #[]⟩ := I.obj
  refine wpAny_bind (wpAny_pure (wpAny_bind (wpAny_bind (wpAny_loadPart hx (wpAny_bind (PySem.W.Looks.here (s := { s with toks := s.toks + 1 }) (PySem.W.looks_clsIn X hc) ?_))))))
  rw [hd']
  refine wpAny_pure (a := some dx) (wpAny_bind (wpAny_pure (wpAny_bind ?_)))
  refine wpAny_nsSet1 (s := { s with toks := s.toks + 1 }) I.ns fun h' hn2 hs2 => ?_
  obtain ⟨oD, esD, epD, hoD, hdD, hcD⟩ := hn2.count (PySem.Within.cons name v hw)
  refine wpAny_bind (wpAny_lookBehind hoD (by rw [hdD]; exact pastItsLine_dict (Nat.le_trans hcD (by rw [List.length_cons]; omega))) ?_)
  exact wpAny_pure (h _ ⟨(hs2.2 _ (Ne.symm I.ne)).trans I.obj, hn2, I.ne⟩ hs2)
theorem make_map {R : Result → Shared → Prop} {vs : List Value} {kw : List (Str × Value)} (X : K.In s.heap) (hm : PySem.W.makesIn K C = true)
    (hi : PySem.W.findIn K (.ref C) "__init__" = some (some (.ref f))) (hf : PySem.W.typeIn K (.ref f) = some (.type "function"))
    (h : codeAny (model prog w) (A.under (.builtin "type.__call__" ⟨.ref C :: vs, kw⟩)) (.call (.ref f) ⟨.ref (s.heap.objs.size + 1) :: vs, kw⟩) (PySem.W.InitBack (s.heap.objs.size + 1) R)
      { s with heap := (s.heap.push PySem.W.emptyDict).push (PySem.W.instObj C s.heap.objs.size) }) :
    codeAny (model prog w) A (.call (.ref C) ⟨vs, kw⟩) R s := by
  obtain ⟨hh, g, d, t, os⟩ := s
  exact PySem.W.make_core (PySem.W.makes_of X hm) (PySem.W.looks_findIn X hi) (fun self => PySem.W.bind_fn X self hf) (.inl rfl) h
end
def putF (f : Str) (v : V) : List (Str × V) → List (Str × V)
  | [] => [(f, v)]
  | (g, x) :: r => if g = f then (g, v) :: r else (g, x) :: putF f v r
theorem lookup_putF (f g : Str) (v : V) : ∀ fs : List (Str × V), (putF f v fs).lookup g = if g = f then some v else fs.lookup g
  | [] => by
    show List.lookup g [(f, v)] = _
    by_cases h : g = f
    · have hb : (g == f) = true := beq_iff_eq.mpr h
      simp only [List.lookup, hb, if_pos h]
    · have hb : (g == f) = false := beq_eq_false_iff_ne.mpr h
      simp only [List.lookup, hb, if_neg h]
  | (k, x) :: r => by
    have ih := lookup_putF f g v r
    rw [show putF f v ((k, x) :: r) = (if k = f then (k, v) :: r else (k, x) :: putF f v r) from rfl]
    by_cases hk : k = f
    · rw [if_pos hk]
      by_cases h : g = k
      · have hb : (g == k) = true := beq_iff_eq.mpr h
        simp only [List.lookup, hb, if_pos (h.trans hk)]
      · have hb : (g == k) = false := beq_eq_false_iff_ne.mpr h
        simp only [List.lookup, hb, if_neg (fun e : g = f => h (e.trans hk.symm))]
    · rw [if_neg hk]
      by_cases h : g = k
      · have hb : (g == k) = true := beq_iff_eq.mpr h
        simp only [List.lookup, hb, if_neg (fun e : g = f => hk (h.symm.trans e))]
      · have hb : (g == k) = false := beq_eq_false_iff_ne.mpr h
        simp only [List.lookup, hb]
        exact ih
theorem keys_putF (f : Str) (v : V) : ∀ fs : List (Str × V), f ∈ (putF f v fs).map (·.1) ∧ ∀ g, g ∈ fs.map (·.1) → g ∈ (putF f v fs).map (·.1)
  | [] => ⟨by simp [putF], fun g h => by simp at h⟩
  | (k, x) :: r => by
    obtain ⟨i1, i2⟩ := keys_putF f v r
    rw [show putF f v ((k, x) :: r) = (if k = f then (k, v) :: r else (k, x) :: putF f v r) from rfl]
    by_cases hk : k = f
    · rw [if_pos hk]
      subst hk
      exact ⟨by simp, fun g h => by simpa using h⟩
    · rw [if_neg hk]
      refine ⟨?_, fun g h => ?_⟩
      · rw [List.map_cons]
        exact List.mem_cons_of_mem _ i1
      · rw [List.map_cons] at h ⊢
        rcases List.mem_cons.mp h with e | e
        · exact List.mem_cons.mpr (.inl e)
        · exact List.mem_cons_of_mem _ (i2 g e)
theorem length_putF (f : Str) (v : V) : ∀ fs : List (Str × V), (putF f v fs).length ≤ fs.length + 1
  | [] => by simp [putF]
  | (k, x) :: r => by
    have ih := length_putF f v r
    rw [show putF f v ((k, x) :: r) = (if k = f then (k, v) :: r else (k, x) :: putF f v r) from rfl]
    by_cases hk : k = f
    · rw [if_pos hk, List.length_cons, List.length_cons]; omega
    · rw [if_neg hk, List.length_cons, List.length_cons]; omega
theorem RelO.some_of {v : V} {o : Option Value} (r : RelO (some v) o) : ∃ u, o = some u ∧ RelV v u := by
  cases o with
  | none => exact (show False from r).elim
  | some u => exact ⟨u, rfl, r⟩
theorem RelO.none_of {o : Option Value} (r : RelO none o) : o = none := by
  cases o with
  | none => rfl
  | some u => exact (show False from r).elim
theorem handed_of {v : V} {u : Value} (r : RelV v u) : PySem.W.handedIn u = true := by
  cases v with
  | non => cases (show u = Value.none from r); rfl
  | bl b => cases (show u = Value.bool b from r); rfl
  | int i => obtain ⟨t, e⟩ := (show ∃ t, u = Value.int i t from r); cases e; rfl
  | str x => obtain ⟨t, e⟩ := (show ∃ t, u = Value.str x t from r); cases e; rfl
  | byt b => obtain ⟨t, e⟩ := (show ∃ t, u = Value.bytes b t from r); cases e; rfl
  | flt b => obtain ⟨t, e⟩ := (show ∃ t, u = Value.float b t from r); cases e; rfl
  | ref a => cases (show u = Value.ref a from r); rfl
  | ty n => cases (show u = Value.type n from r); rfl
section
variable {P : Program} {w : World} {H H' : Hp} {h h' : Heap} {a C dx : Addr} {fs fs' : List (Str × V)}
theorem ins_get (hok : HOk P w H h) (e : H a = some (.ins C dx fs)) : ∃ mA, ObjM h a dx C mA ∧ (∀ f, RelO (fs.lookup f) (mA f)) ∧ PySem.Within mA (fs.map (·.1)) ∧ fs.length ≤ 1000 ∧ H dx = some (.own a) := by
  obtain ⟨d, z, ne, ob, mA, n, r, q⟩ := (show ObjOk P w H h a (.ins C dx fs) from hok a _ e)
  exact ⟨mA, ⟨ob, n, ne⟩, r, q, z, d⟩
end
structure Cls (K : PySem.W.Frag) (C : Addr) : Prop where
  pg : PySem.W.plainGet K C Str.empty = true
  hd : PySem.W.hasDictIn K C = true
  po : PySem.W.plainOver K C = true
  sa : PySem.W.findIn K (.ref C) "__setattr__" = some (some (.builtin "object.__setattr__"))
theorem Cls.get {K : PySem.W.Frag} {C : Addr} (c : Cls K C) (f : Str) : PySem.W.plainGet K C f = true := c.pg
def NoAttr (K : PySem.W.Frag) (C : Addr) (f : Str) : Prop := PySem.W.findIn K (.ref C) f = some none
theorem NoAttr.taker {K : PySem.W.Frag} {C : Addr} {f : Str} (n : NoAttr K C f) : PySem.W.takerIn K C f = some none := by
  unfold PySem.W.takerIn
  rw [show PySem.W.findIn K (.ref C) f = some none from n]
  rfl
structure Meth (K : PySem.W.Frag) (C : Addr) (m : Str) (f : Addr) : Prop where
  at_ : PySem.W.findIn K (.ref C) m = some (some (.ref f))
  fn : PySem.W.isFn K (.ref f) = true
  kp : PySem.W.keepIn K (.ref f) = true
section
variable {X : Cx} {pins : List (Addr × Obj)} {σ : St} {H : Hp} {s : Shared} {a C dx : Addr} {fs : List (Str × V)} {f : Str} {v : V} {A : Around} {E : Value → Shared → Prop}
theorem getattr_ok {b : Bool} {Q : Value → Shared → Prop} (I : Inv X pins σ H s) (e : H a = some (.ins C dx fs)) (c : Cls X.K C) (n : NoAttr X.K C f) (l : fs.lookup f = some v)
    (h : ∀ u s', Inv X pins σ H s' → RelV v u → Q u s') : wpAny (model X.prog X.w) A (getAttr (.ref a) f b) Q E s := by
  obtain ⟨mA, O, r, _, _, _⟩ := ins_get I.hok e
  obtain ⟨u, hu, ru⟩ := RelO.some_of (v := v) (o := mA f) (by rw [← l]; exact r f)
  exact get_map I.kIn O (c.get f) c.hd n hu (handed_of ru) (h u _ (I.tok _) ru)
theorem getmeth_ok {m : Str} {g : Addr} {pl : Sem Bool} {Q : Value × List Value → Shared → Prop} (I : Inv X pins σ H s) (e : H a = some (.ins C dx fs)) (c : Cls X.K C) (k : Meth X.K C m g) (l : fs.lookup m = none)
    (h : Q (.ref g, [.ref a]) s) : wpAny (model X.prog X.w) A (getMethod (.ref a) m pl) Q E s := by
  obtain ⟨mA, O, r, _, _, _⟩ := ins_get I.hok e
  have hn : mA m = none := RelO.none_of (by rw [← l]; exact r m)
  exact get_meth I.kIn O (c.get m) k.at_ k.fn hn h
theorem setattr_ok {y : V} {u : Value} {Q : Unit → Shared → Prop} (I : Inv X pins σ H s) (e : H a = some (.ins C dx fs)) (c : Cls X.K C) (n : NoAttr X.K C f) (hl : fs.length < 1000) (ry : RelV y u)
    (h : ∀ s', Inv X pins σ (upd H a (.ins C dx (putF f y fs))) s' → Q () s') : wpAny (model X.prog X.w) A (setAttr (.ref a) f u) Q E s := by
  obtain ⟨mA, O, r, wi, _, ho⟩ := ins_get I.hok e
  have hz : (fs.map (·.1)).length ≤ sizeLine := by rw [List.length_map, sizeLine_eq]; omega
  refine set_map I.kIn O c.sa c.po n.taker c.hd wi hz fun h' O' sb => h _ ?_
  have hd : ∃ o, h'.get? dx = some o := let ⟨o, _, _, e', _⟩ := O'.ns; ⟨o, e'⟩
  refine I.write (x := a) (e := dx) (by rw [e]; exact True.intro) (.inr ho) (fun b q hb z => (sb.2 b hb).trans z) hd ?_
  refine ⟨by rw [upd_ne O.ne]; exact ho, ?_, O.ne, O'.obj, _, O'.ns, fun g => ?_, fun g hg => ?_⟩
  · have := length_putF f y fs; omega
  · show RelO ((putF f y fs).lookup g) (if g = f then some u else mA g)
    rw [lookup_putF]
    by_cases q : g = f
    · rw [if_pos q, if_pos q]; exact ry
    · rw [if_neg q, if_neg q]; exact r g
  · by_cases q : g = f
    · rw [q]; exact (keys_putF f y fs).1
    · refine (keys_putF f y fs).2 g (wi g fun z => hg ?_)
      show (if g = f then some u else mA g) = none
      rw [if_neg q]; exact z
theorem Inv.made (I : Inv X pins σ H s) : Inv X pins σ (upd (upd H s.heap.objs.size (.own (s.heap.objs.size + 1))) (s.heap.objs.size + 1) (.ins C s.heap.objs.size []))
    { s with heap := (s.heap.push PySem.W.emptyDict).push (PySem.W.instObj C s.heap.objs.size) } := by
  have e1 : (s.heap.push PySem.W.emptyDict).get? s.heap.objs.size = some PySem.W.emptyDict := Heap.get?_push_size s.heap rfl
  have e2 : ((s.heap.push PySem.W.emptyDict).push (PySem.W.instObj C s.heap.objs.size)).get? (s.heap.objs.size + 1) = some (PySem.W.instObj C s.heap.objs.size) := by
    have := Heap.get?_push_size (s.heap.push PySem.W.emptyDict) (o := PySem.W.instObj C s.heap.objs.size) rfl
    rwa [Heap.size_push] at this
  have e3 : (s.heap.push PySem.W.emptyDict).Ns s.heap.objs.size (fun _ => none) := ⟨PySem.W.emptyDict, #[], _, e1, rfl, (fun e he => absurd he (by simp)), fun _ => rfl⟩
  have I1 := I.laid (a := s.heap.objs.size) (o := .own (s.heap.objs.size + 1)) (h' := s.heap.push PySem.W.emptyDict) (t' := s.toks) (fun b u q => Heap.get?_push_of_some _ q) (Nat.le_refl _) ⟨_, e1⟩
  refine I1.laid (a := s.heap.objs.size + 1) (o := .ins C s.heap.objs.size []) (t' := s.toks) (fun b u q => Heap.get?_push_of_some _ q) (Nat.le_of_eq (Heap.size_push _ _)) ?_
  have ne : s.heap.objs.size ≠ s.heap.objs.size + 1 := Nat.ne_of_lt (Nat.lt_succ_self _)
  refine ⟨by rw [upd_ne ne, upd_same], Nat.zero_le _, ne, e2, fun _ => none, (Heap.Ns1.of_empty e3).at fun o q => Heap.get?_push_of_some _ q, fun _ => True.intro, fun y hy => absurd rfl hy⟩
theorem attr_of {prog : Program} {w : World} {env : Env} {e : Expr} {f : Str} {pos : Pos} {s : Shared} {Q : Value → Shared → Prop} (hb : attributeBase e f env (eval e env) = eval e env)
    (h : wpAny (model prog w) A (eval e env) (fun o s₁ => wpAny (model prog w) A (getAttr o f true) Q E s₁) E s) : wpAny (model prog w) A (eval (.Attribute e f pos) env) Q E s :=
  Attribute_any_ h (by rw [arm_eval_Attribute, hb])
end
def tFld (K : PySem.W.Frag) (ta : TE) (f : Str) : TE := fun σ H Q => ta σ H fun x H1 => ∃ a C dx fs v, x = .ref a ∧ H1 a = some (.ins C dx fs) ∧ Cls K C ∧ NoAttr K C f ∧ fs.lookup f = some v ∧ Q v H1
def sFld (K : PySem.W.Frag) (ta tv : TE) (f : Str) : TS := fun D σ H => tv σ H fun y H1 => ta σ H1 fun x H2 => ∃ a C dx fs, x = .ref a ∧ H2 a = some (.ins C dx fs) ∧ Cls K C ∧ NoAttr K C f ∧ fs.length < 1000 ∧
  D.nx σ (upd H2 a (.ins C dx (putF f y fs)))
section
variable {X : Cx} {o e value : Expr} {f : Str} {pos pos' tpos : Pos} {ta tv : TE}
theorem pe_fld (he : PE X e ta) (hb : attributeBase e f X.env (eval e X.env) = eval e X.env) : PE X (.Attribute e f pos) (tFld X.K ta f) := by
  intro pins s σ H Q I h
  refine attr_of hb (thn (he pins s σ H _ I h) fun u s1 ⟨x, H1, I1, rx, a, C, dx, fs, v, ex, ea, c, n, l, q⟩ => ?_)
  subst ex
  obtain rfl : u = Value.ref a := rx
  exact getattr_ok I1 ea c n l fun u' s2 I2 ru => ⟨v, H1, I2, ru, q⟩
theorem ps_fld (ha : PE X o ta) (hv : PE X value tv) (hs : swapsWith value (some (.Attribute o f pos')) pos.line X.env = pure false) : PS X (.Assign [.Attribute o f pos'] value pos) (sFld X.K ta tv f) := by
  intro pins s σ H D I h
  refine plainObj_wpAny_Assign_Attribute (thn (hv pins s σ H _ I h) fun u s1 ⟨y, H1, I1, ry, q⟩ => thn (ha pins s1 σ H1 _ I1 q) fun ov s2 ⟨x, H2, I2, rx, a, C, dx, fs, ex, ea, c, n, l, q2⟩ => ?_) hs
  subst ex
  obtain rfl : ov = Value.ref a := rx
  exact setattr_ok I2 ea c n l ry fun s3 I3 => ⟨σ, _, I3, q2⟩
theorem methcall_of {pl : Sem Bool} {m : Str} {apos : Pos} {args : List Expr} {pins : List (Addr × Obj)} {s : Shared} {σ : St} {H : Hp} {Q : Value → Shared → Prop} {te : TE} (he : PE X e te) (I : Inv X pins σ H s)
    (h : te σ H fun x H1 => ∃ a C dx fs g, x = .ref a ∧ H1 a = some (.ins C dx fs) ∧ Cls X.K C ∧ Meth X.K C m g ∧ fs.lookup m = none ∧
      ∀ s1, Inv X pins σ H1 s1 → wpAny (model X.prog X.w) X.A (callWith pos (.ref g) [.ref a] (backTo pos (starEach args X.env)) (backToKw pos (keywordEach [] X.env))) Q X.xe s1)
    (ht : eval (.Call (.Attribute e m apos) args [] pos) X.env = (do
      let ov ← eval e X.env
      standAt apos.atName
      let (f, first) ← holding [ov] (getMethod ov m pl)
      callWith pos f first (backTo pos (starEach args X.env)) (backToKw pos (keywordEach [] X.env)))) :
    wpAny (model X.prog X.w) X.A (eval (.Call (.Attribute e m apos) args [] pos) X.env) Q X.xe s := by
  refine PySem.W.methodCall_KW (pl := pl) (thn (he pins s σ H _ I h) fun u s1 ⟨x, H1, I1, rx, a, C, dx, fs, g, ex, ea, c, k, l, q⟩ => ?_) ht
  subst ex
  obtain rfl : u = Value.ref a := rx
  exact getmeth_ok I1 ea c k l (q s1 I1)
end
section
variable {X : Cx} {pins : List (Addr × Obj)} {σ : St} {H : Hp} {s : Shared} {A : Around} {E : Value → Shared → Prop} {Q : Value → Shared → Prop} {c : Value} {b : Bool}
end
end L2
namespace L2
open PySem PySem.Spec PyProof.Rows
structure Room (k : Nat) (A : Around) : Prop where
  hd : A.handled = none
  dp : A.depth + 3 * k + 5 < recursionLimit
  un : A.units + 16 * k + 200 < cLine
theorem Room.mono {j k : Nat} {A : Around} (r : Room k A) (h : j ≤ k) : Room j A := ⟨r.hd, by have := r.dp; omega, by have := r.un; omega⟩
theorem Room.deeper {k : Nat} {A : Around} (r : Room (k + 1) A) (env : Env) : Room k (A.deeper env) :=
  ⟨r.hd, by have := r.dp; show A.depth + 1 + 3 * k + 5 < _; omega, by have := r.un; show A.units + 3 + 16 * k + 200 < _; omega⟩
theorem make_depth {A : Around} {C : Addr} {us : List Value} {kw : List (Str × Value)} : (A.under (.builtin "type.__call__" ⟨.ref C :: us, kw⟩)).depth = A.depth + 1 := by
  first | rfl | simp [Around.under, Code.weight, Code.isCreation, Code.isGuard, Code.isCaller, Code.frames, Code.isFrame, guardIds]
theorem make_units {A : Around} {C : Addr} {us : List Value} {kw : List (Str × Value)} : (A.under (.builtin "type.__call__" ⟨.ref C :: us, kw⟩)).units = A.units + 1 := by
  first | rfl | simp [Around.under, Code.cUnits, Code.frames, Code.isFrame]
theorem Room.make {k : Nat} {A : Around} (r : Room (k + 1) A) (C : Addr) (us : List Value) (kw : List (Str × Value)) : Room k (A.under (.builtin "type.__call__" ⟨.ref C :: us, kw⟩)) :=
  ⟨r.hd, by have := r.dp; rw [make_depth]; omega, by have := r.un; rw [make_units]; omega⟩
theorem Room.depth {k : Nat} {A : Around} (r : Room k A) : A.depth < recursionLimit := by have := r.dp; omega
theorem Room.units {k : Nat} {A : Around} (r : Room k A) : A.units + 64 < cLine := by have := r.un; omega
def tNil : TA := fun _ H Q => Q [] H
def tCons (ta : TE) (tr : TA) : TA := fun σ H Q => ta σ H fun x H1 => tr σ H1 fun xs H2 => Q (x :: xs) H2
section
variable {X : Cx} {e : Expr} {es : List Expr} {te : TE} {t : TA} {pos : Pos}
theorem pa_nil : PA X [] tNil := fun _ _ _ _ H Q I h => Calls.spliced_nil ⟨[], H, I, .nil, h⟩
theorem pa_cons (ha : PE X e te) (hr : PA X es t) (hs : starEach (e :: es) X.env = (false, eval e X.env) :: starEach es X.env := by rfl) : PA X (e :: es) (tCons te t) := by
  intro pos pins s σ H Q I h
  rw [hs]
  show wpAny _ _ (spliced ((false, eval e X.env) :: backTo pos (starEach es X.env))) _ _ s
  refine Calls.spliced_cons (thn (ha pins s σ H _ I h) fun u s1 ⟨x, H1, I1, r1, q1⟩ => ?_)
  exact thn (hr pos pins s1 σ H1 _ I1 q1) fun us s2 ⟨xs, H2, I2, r2, q2⟩ => ⟨x :: xs, H2, I2, .cons r1 r2, q2⟩
def tTup (t : TA) : TE := fun σ H Q => t σ H fun xs H1 => xs.length ≤ sizeLine ∧ ∀ p, H1 p = none → Q (.ref p) (upd H1 p (.tup xs))
def tLst (t : TA) : TE := fun σ H Q => t σ H fun xs H1 => xs.length ≤ sizeLine ∧ ∀ p, H1 p = none → Q (.ref p) (upd H1 p (.lst xs))
theorem pe_tup {x1} (h : PA X es t) : PE X (.Tuple es x1 pos) (tTup t) := by
  intro pins s σ H Q I hq
  refine wpAny_Tuple_spliced (thn (h pos pins s σ H _ I hq) fun us s1 ⟨xs, H1, I1, r, z, q⟩ => ⟨by rw [← r.length]; exact z, ?_⟩)
  have hf : H1 s1.heap.objs.size = none := I1.hok.fresh (Nat.le_refl _)
  refine ⟨.ref s1.heap.objs.size, upd H1 s1.heap.objs.size (.tup xs), I1.laid (t' := s1.toks) (fun b u e => Heap.get?_push_of_some _ e) (Nat.le_refl _) ?_, rfl, q _ hf⟩
  exact ⟨z, us, r, ⟨_, Heap.get?_push_size _ rfl, rfl, _, rfl⟩⟩
theorem pe_lst (h : PA X es t) : PE X (.List es pos) (tLst t) := by
  intro pins s σ H Q I hq
  refine wpAny_List_spliced (thn (h pos pins s σ H _ I hq) fun us s1 ⟨xs, H1, I1, r, z, q⟩ => ⟨by rw [← r.length]; exact z, ?_⟩)
  have hf : H1 s1.heap.objs.size = none := I1.hok.fresh (Nat.le_refl _)
  refine ⟨.ref s1.heap.objs.size, upd H1 s1.heap.objs.size (.lst xs), I1.laid (t' := s1.toks) (fun b u e => Heap.get?_push_of_some _ e) (Nat.le_refl _) ?_, rfl, q _ hf⟩
  exact ⟨z, us, 0, r, Heap.get?_push_size _ rfl⟩
end
abbrev Sp := List V → Hp → VK → XK → Prop
abbrev CXT := List Env → Hp → Shared → XK → Value → Shared → Prop
structure Env0 (P : Program) (w : World) (K : PySem.W.Frag) (mg : Str → Option Value) (base : Heap) (A : Around) (outer : List Env) (s : Shared) (H : Hp) : Prop where
  frames : A.frames = some outer
  mod : Mod K mg base
  bs : ∀ b o, base.get? b = some o → s.heap.get? b = some o ∧ H b = none
  bsz : base.objs.size ≤ s.heap.objs.size
  funs : s.heap.FunFrames base outer
  frf : ∀ b ∈ frs outer, H b = none
  hok : HOk P w H s.heap
  bare : AllBare s.gens
def CE (outer : List Env) (P : Program) (w : World) (H : Hp) (s : Shared) (Q : VK) (u : Value) (s' : Shared) : Prop :=
  ∃ v H', s'.os = s.os ∧ AllBare s'.gens ∧ Un (frs outer) [] H H' s.heap s'.heap ∧ HOk P w H' s'.heap ∧ RelV v u ∧ Q v H'
def CR (CX : CXT) (outer : List Env) (P : Program) (w : World) (H : Hp) (s : Shared) (Q : VK) (E : XK) (r : Result) (s' : Shared) : Prop :=
  match r with
  | .ok (.ret u) => CE outer P w H s Q u s'
  | .ok _ => False
  | .error e => CX outer H s E e s'
structure FnOk (P : Program) (w : World) (K : PySem.W.Frag) (mg : Str → Option Value) (base : Heap) (CX : CXT) (k : Nat) (f : Addr) (fd : FuncData) (ps : List Str) (sp : Sp) : Prop where
  len : ∀ vs H Q E, sp vs H Q E → vs.length = ps.length
  run : ∀ (A : Around) (outer : List Env) (s : Shared) (H : Hp) (args : Args) (us : List Value) (vs : List V) (Q : VK) (E : XK), Room k A → Env0 P w K mg base A outer s H → BindsTo s fd args (ps.zip us) → Vals vs us → sp vs H Q E →
    codeAny (model P w) A (.call (.ref f) args) (CR CX outer P w H s Q E) s
theorem Env0.make {P : Program} {w : World} {K : PySem.W.Frag} {mg : Str → Option Value} {base : Heap} {A : Around} {outer : List Env} {s : Shared} {H : Hp} (e : Env0 P w K mg base A outer s H) (C : Addr) (us : List Value) (kw : List (Str × Value)) :
    Env0 P w K mg base (A.under (.builtin "type.__call__" ⟨.ref C :: us, kw⟩)) outer s H := ⟨by first | exact e.frames | (simpa [Around.under, Code.envs, Code.isFrame, pushEnvs] using e.frames), e.mod, e.bs, e.bsz, e.funs, e.frf, e.hok, e.bare⟩
section
variable {X : Cx} {pins : List (Addr × Obj)} {σ : St} {H : Hp} {s s' : Shared}
theorem Inv.env0 (I : Inv X pins σ H s) : Env0 X.prog X.w X.K X.mg X.base X.A X.stack s H :=
  ⟨I.ok.frames, I.ok.mod, I.bs, Nat.le_trans I.ok.bsz I.sz, I.stack, I.stkFree, I.hok, I.bare⟩
theorem Inv.after {Q : VK} {u : Value} (I : Inv X pins σ H s) (h : CE X.stack X.prog X.w H s Q u s') : EP X pins σ Q u s' := by
  obtain ⟨v, H', os, bare, un, hok, r, q⟩ := h
  obtain ⟨hh, g, d, t, os'⟩ := s'
  obtain rfl : os' = s.os := os
  exact ⟨v, H', I.call (h' := hh) (g' := g) (d' := d) (t' := t) (ch := []) un hok bare (fun b z => absurd z (by simp)), r, q⟩
end
def tCall (sp : Sp) (dvs : List V) (E : XK) (t : TA) : TE := fun σ H Q => t σ H fun vs H1 => sp (vs ++ dvs) H1 Q E
def tMeth (C : Addr) (m : Str) (sp : Sp) (dvs : List V) (E : XK) (ta : TE) (t : TA) : TE := fun σ H Q => ta σ H fun x H1 => ∃ a dx fs, x = .ref a ∧ H1 a = some (.ins C dx fs) ∧ fs.lookup m = none ∧
  t σ H1 fun vs H2 => sp (x :: (vs ++ dvs)) H2 Q E
def tMake (C : Addr) (sp : Sp) (dvs : List V) (E : XK) (t : TA) : TE := fun σ H Q => t σ H fun vs H1 => ∀ x dx, H1 x = none → H1 dx = none → dx ≠ x →
  sp (.ref x :: (vs ++ dvs)) (upd (upd H1 dx (.own x)) x (.ins C dx [])) (fun v H2 => v = .non ∧ Q (.ref x) H2) E
def Binds (K : PySem.W.Frag) (fd : FuncData) (ps : List Str) (ds : List Value) : Prop :=
  ∀ (s : Shared) (us : List Value), K.In s.heap → (us ++ ds).length = ps.length → BindsTo s fd ⟨us, []⟩ (ps.zip (us ++ ds))
theorem Binds.all {K : PySem.W.Frag} {fd : FuncData} {ps : List Str} (h : ∀ us : List Value, us.length = ps.length → bindArgs fd ⟨us, []⟩ = pure (ps.zip us)) : Binds K fd ps [] := fun s us _ hl => by
  rw [List.append_nil] at hl ⊢
  exact .of_eq (h us hl)
def Passes (CX : CXT) (X : Cx) (E : XK) : Prop := ∀ (pins : List (Addr × Obj)) (σ : St) (H : Hp) (s : Shared) (e : Value) (s' : Shared), Inv X pins σ H s → CX X.stack H s E e s' → X.xe e s'
section
variable {X : Cx} {CX : CXT} {k : Nat} {f C : Addr} {fd : FuncData} {ps : List Str} {sp : Sp} {dvs : List V} {ds : List Value} {E : XK} {x m : Str} {p pos apos : Pos} {e o : Expr} {es : List Expr} {ta : TE} {t : TA}
theorem run_fn {pins : List (Addr × Obj)} {σ : St} {H : Hp} {s : Shared} {Q : VK} {us : List Value} {vs : List V} (F : FnOk X.prog X.w X.K X.mg X.base CX k f fd ps sp) (hr : Room k X.A) (hb : Binds X.K fd ps ds) (hd : Vals dvs ds) (hx : Passes CX X E)
    (I : Inv X pins σ H s) (r : Vals vs us) (h : sp (vs ++ dvs) H Q E) : wpAny (model X.prog X.w) X.A (call (.ref f) us) (EP X pins σ Q) X.xe s := by
  have r2 : Vals (vs ++ dvs) (us ++ ds) := r.append hd
  have hl : (us ++ ds).length = ps.length := by rw [← r2.length]; exact F.len _ _ _ _ h
  refine wpAny_call (codeAny_mono (F.run X.A X.stack s H ⟨us, []⟩ (us ++ ds) (vs ++ dvs) Q E hr I.env0 (hb s us I.kIn hl) r2 h) fun r s' hq => ?_)
  cases r with
  | error e => exact hx pins σ H s e s' I hq
  | ok fl =>
    cases fl with
    | ret u => exact I.after hq
    | next => exact False.elim hq
    | brk => exact False.elim hq
    | cont => exact False.elim hq
theorem pe_call (F : FnOk X.prog X.w X.K X.mg X.base CX k f fd ps sp) (hr : Room k X.A) (hg : Gl X x) (hm : X.mg x = some (.ref f)) (hk : PySem.W.keepIn X.K (.ref f) = true) (hb : Binds X.K fd ps ds) (hd : Vals dvs ds) (hx : Passes CX X E)
    (ha : PA X (e :: es) t) (hdb : (x == ("__debug__" : Str)) = false := by decide) (he : starEach (e :: es) X.env = (false, eval e X.env) :: starEach es X.env := by rfl) (hpl : (backTo pos (starEach es X.env)).any (·.1) = false := by rfl) :
    PE X (.Call (.Name x p) (e :: es) [] pos) (tCall sp dvs E t) := by
  intro pins s σ H Q I h
  refine wpAny_Call_Name_kw (ld_glob I hg hm ?_ hdb)
  refine PySem.W.callWith_K (h₀ := X.base) I.ok.mod.kin hk (thn (ha pos pins s σ H _ I h) fun us s1 ⟨vs, H1, I1, r, q⟩ => ⟨I1.kIn, ?_⟩) he hpl
  exact run_fn F hr hb hd hx I1 r q
theorem pe_meth {pl : Sem Bool} (he : PE X o ta) (c : Cls X.K C) (hm : Meth X.K C m f) (F : FnOk X.prog X.w X.K X.mg X.base CX k f fd ps sp) (hr : Room k X.A) (hb : Binds X.K fd ps ds) (hd : Vals dvs ds) (hx : Passes CX X E) (ha : PA X (e :: es) t)
    (hst : starEach (e :: es) X.env = (false, eval e X.env) :: starEach es X.env := by rfl) (hpl : (backTo pos (starEach es X.env)).any (·.1) = false := by rfl)
    (ht : eval (.Call (.Attribute o m apos) (e :: es) [] pos) X.env = (do
      let ov ← eval o X.env
      standAt apos.atName
      let (f, first) ← holding [ov] (getMethod ov m pl)
      callWith pos f first (backTo pos (starEach (e :: es) X.env)) (backToKw pos (keywordEach [] X.env))) := by rfl) :
    PE X (.Call (.Attribute o m apos) (e :: es) [] pos) (tMeth C m sp dvs E ta t) := by
  intro pins s σ H Q I h
  refine PySem.W.methodCall_KW (pl := pl) (thn (he pins s σ H _ I h) fun u s1 ⟨x, H1, I1, rx, a, dx, fs, ex, ea, l, q⟩ => ?_) ht
  subst ex
  obtain rfl : u = Value.ref a := rx
  refine getmeth_ok I1 ea c hm l ?_
  refine PySem.W.callWith_K (first := [.ref a]) (h₀ := X.base) I.ok.mod.kin hm.kp (thn (ha pos pins s1 σ H1 _ I1 q) fun us s2 ⟨vs, H2, I2, r, q2⟩ => ⟨I2.kIn, ?_⟩) hst hpl
  exact run_fn (us := .ref a :: us) (vs := .ref a :: vs) F hr hb hd hx I2 (.cons rfl r) q2
theorem pe_meth0 {pl : Sem Bool} (he : PE X o ta) (c : Cls X.K C) (hm : Meth X.K C m f) (F : FnOk X.prog X.w X.K X.mg X.base CX k f fd ps sp) (hr : Room k X.A) (hb : Binds X.K fd ps ds) (hd : Vals dvs ds) (hx : Passes CX X E)
    (ht : eval (.Call (.Attribute o m apos) [] [] pos) X.env = (do
      let ov ← eval o X.env
      standAt apos.atName
      let (f, first) ← holding [ov] (getMethod ov m pl)
      callWith pos f first (backTo pos (starEach [] X.env)) (backToKw pos (keywordEach [] X.env))) := by rfl) :
    PE X (.Call (.Attribute o m apos) [] [] pos) (tMeth C m sp dvs E ta tNil) := by
  intro pins s σ H Q I h
  refine PySem.W.methodCall_KW (pl := pl) (thn (he pins s σ H _ I h) fun u s1 ⟨x, H1, I1, rx, a, dx, fs, ex, ea, l, q⟩ => ?_) ht
  subst ex
  obtain rfl : u = Value.ref a := rx
  refine getmeth_ok I1 ea c hm l ?_
  exact PySem.W.callWith_K0 (first := [.ref a]) I1.kIn hm.kp (run_fn (us := [.ref a]) (vs := [.ref a]) F hr hb hd hx I1 (.cons rfl .nil) q)
structure Mk (K : PySem.W.Frag) (C f : Addr) : Prop where
  makes : PySem.W.makesIn K C = true
  init : PySem.W.findIn K (.ref C) "__init__" = some (some (.ref f))
  fn : PySem.W.isFn K (.ref f) = true
  kp : PySem.W.keepIn K (.ref C) = true
theorem run_make {pins : List (Addr × Obj)} {σ : St} {H : Hp} {s : Shared} {Q : VK} {us : List Value} {vs : List V} (M : Mk X.K C f) (F : FnOk X.prog X.w X.K X.mg X.base CX k f fd ps sp) (hr : Room (k + 1) X.A) (hb : Binds X.K fd ps ds) (hd : Vals dvs ds)
    (hx : Passes CX X E) (I : Inv X pins σ H s) (r : Vals vs us)
    (h : ∀ x dx, H x = none → H dx = none → dx ≠ x → sp (.ref x :: (vs ++ dvs)) (upd (upd H dx (.own x)) x (.ins C dx [])) (fun v H2 => v = .non ∧ Q (.ref x) H2) E) :
    wpAny (model X.prog X.w) X.A (call (.ref C) us) (EP X pins σ Q) X.xe s := by
  have hq := h (s.heap.objs.size + 1) s.heap.objs.size (I.hok.fresh (Nat.le_succ _)) (I.hok.fresh (Nat.le_refl _)) (Nat.ne_of_lt (Nat.lt_succ_self _))
  have I2 := Inv.made (C := C) I
  have r2 : Vals (V.ref (s.heap.objs.size + 1) :: (vs ++ dvs)) (Value.ref (s.heap.objs.size + 1) :: (us ++ ds)) := .cons rfl (r.append hd)
  have hl : (Value.ref (s.heap.objs.size + 1) :: us ++ ds).length = ps.length := by
    have e := r2.length
    rw [F.len _ _ _ _ hq] at e
    exact e.symm
  refine wpAny_call (make_map (f := f) I.kIn M.makes M.init (beq_iff_eq.mp M.fn) (codeAny_mono (F.run _ X.stack _ _ ⟨Value.ref (s.heap.objs.size + 1) :: us, []⟩ (Value.ref (s.heap.objs.size + 1) :: (us ++ ds)) _ _ E (hr.make C us [])
    (I2.env0.make C us []) (hb _ (Value.ref (s.heap.objs.size + 1) :: us) I2.kIn hl) r2 hq) fun r s' hq' => ?_))
  cases r with
  | error e => exact hx pins σ _ _ e s' I2 hq'
  | ok fl =>
    cases fl with
    | ret u =>
      obtain ⟨v, H', I3, rv, ev, q3⟩ := I2.after hq'
      subst ev
      exact ⟨rv, ⟨V.ref (s.heap.objs.size + 1), H', I3, rfl, q3⟩⟩
    | next => exact False.elim hq'
    | brk => exact False.elim hq'
    | cont => exact False.elim hq'
theorem pe_make (M : Mk X.K C f) (F : FnOk X.prog X.w X.K X.mg X.base CX k f fd ps sp) (hr : Room (k + 1) X.A) (hg : Gl X x) (hm : X.mg x = some (.ref C)) (hb : Binds X.K fd ps ds) (hd : Vals dvs ds) (hx : Passes CX X E)
    (ha : PA X (e :: es) t) (hdb : (x == ("__debug__" : Str)) = false := by decide) (he : starEach (e :: es) X.env = (false, eval e X.env) :: starEach es X.env := by rfl) (hpl : (backTo pos (starEach es X.env)).any (·.1) = false := by rfl) :
    PE X (.Call (.Name x p) (e :: es) [] pos) (tMake C sp dvs E t) := by
  intro pins s σ H Q I h
  refine wpAny_Call_Name_kw (ld_glob I hg hm ?_ hdb)
  refine PySem.W.callWith_K (h₀ := X.base) I.ok.mod.kin M.kp (thn (ha pos pins s σ H _ I h) fun us s1 ⟨vs, H1, I1, r, q⟩ => ⟨I1.kIn, ?_⟩) he hpl
  exact run_make M F hr hb hd hx I1 r q
theorem pe_make0 (M : Mk X.K C f) (F : FnOk X.prog X.w X.K X.mg X.base CX k f fd ps sp) (hr : Room (k + 1) X.A) (hg : Gl X x) (hm : X.mg x = some (.ref C)) (hb : Binds X.K fd ps ds) (hd : Vals dvs ds) (hx : Passes CX X E)
    (hdb : (x == ("__debug__" : Str)) = false := by decide) : PE X (.Call (.Name x p) [] [] pos) (tMake C sp dvs E tNil) := by
  intro pins s σ H Q I h
  refine wpAny_Call_Name_kw (ld_glob I hg hm ?_ hdb)
  exact PySem.W.callWith_K0 I.kIn M.kp (run_make (us := []) M F hr hb hd hx I .nil h)
end
section
variable {X : Cx} {CX : CXT} {k : Nat} {f C : Addr} {fd : FuncData} {ps ks : List Str} {sp : Sp} {E : XK} {x m : Str} {p pos apos kpos : Pos} {e o : Expr} {es : List Expr} {kws : List Keyword} {te ta : TE} {t tk : TA} {nm : Option Str}
variable {g : List Value → List Value → List Value} {gV : List V → List V → List V}
end
structure FnScope (N P : List Str) (sc : Scope) : Prop where
  kind : sc.kind = .function
  co : sc.isCoroutine = false
  gen : sc.isGenerator = false
  nd : N.Nodup
  pre : N.take P.length = P
  par : ∀ x ∈ P, sc.names.lookup x = some .local ∨ sc.names.lookup x = some .cell
  nofree : ∀ y ∈ sc.names, y.2 ≠ .free
theorem bindL_out {kindOf : Str → Option NameKind} {x : Str} : ∀ {binds : List (Str × Value)} {m : Str → Option Value}, (∀ v, (x, v) ∉ binds) → bindL kindOf binds m x = m x
  | [], _, _ => rfl
  | (n, v) :: r, m, h => by
    unfold bindL
    rw [bindL_out fun w hw => h w (List.mem_cons_of_mem _ hw)]
    split
    · have : x ≠ n := by rintro rfl; exact h v List.mem_cons_self
      simp [this]
    · rfl
theorem bindC_out {kindOf : Str → Option NameKind} {x : Str} : ∀ {binds : List (Str × Value)} {m : Str → Option Value}, (∀ v, (x, v) ∉ binds) → bindC kindOf binds m x = m x
  | [], _, _ => rfl
  | (n, v) :: r, m, h => by
    unfold bindC
    rw [bindC_out fun w hw => h w (List.mem_cons_of_mem _ hw)]
    split
    · rfl
    · have : x ≠ n := by rintro rfl; exact h v List.mem_cons_self
      simp [this]
theorem bindL_get {kindOf : Str → Option NameKind} {x : Str} {v : Value} : ∀ {P : List Str} {vs : List Value} {i : Nat} {m : Str → Option Value}, P.Nodup → P[i]? = some x → vs[i]? = some v → kindOf x = some .local →
    bindL kindOf (P.zip vs) m x = some v
  | [], _, _, _, _, h, _, _ => by simp at h
  | _ :: _, [], _, _, _, _, h, _ => by simp at h
  | p :: P, w :: vs, 0, m, nd, h1, h2, hk => by
    simp at h1 h2; subst h1; subst h2
    show bindL kindOf ((p, w) :: P.zip vs) m p = _
    unfold bindL
    rw [bindL_out fun v hv => (List.nodup_cons.mp nd).1 (List.of_mem_zip hv).1, if_pos hk]
    simp
  | p :: P, w :: vs, i + 1, m, nd, h1, h2, hk => by
    show bindL kindOf ((p, w) :: P.zip vs) m x = _
    unfold bindL
    exact bindL_get (i := i) (List.nodup_cons.mp nd).2 (by simpa using h1) (by simpa using h2) hk
theorem bindC_get {kindOf : Str → Option NameKind} {x : Str} {v : Value} : ∀ {P : List Str} {vs : List Value} {i : Nat} {m : Str → Option Value}, P.Nodup → P[i]? = some x → vs[i]? = some v → kindOf x ≠ some .local →
    bindC kindOf (P.zip vs) m x = some v
  | [], _, _, _, _, h, _, _ => by simp at h
  | _ :: _, [], _, _, _, _, h, _ => by simp at h
  | p :: P, w :: vs, 0, m, nd, h1, h2, hk => by
    simp at h1 h2; subst h1; subst h2
    show bindC kindOf ((p, w) :: P.zip vs) m p = _
    unfold bindC
    rw [bindC_out fun v hv => (List.nodup_cons.mp nd).1 (List.of_mem_zip hv).1, if_neg hk]
    simp
  | p :: P, w :: vs, i + 1, m, nd, h1, h2, hk => by
    show bindC kindOf ((p, w) :: P.zip vs) m x = _
    unfold bindC
    exact bindC_get (i := i) (List.nodup_cons.mp nd).2 (by simpa using h1) (by simpa using h2) hk
def start (N : List Str) (vs : List V) : St := vs.map some ++ List.replicate (N.length - vs.length) none
def cxOf (CX : CXT) (P : Program) (w : World) (K : PySem.W.Frag) (mg : Str → Option Value) (base : Heap) (N : List Str) (qual : Str) (scope : Scope) (f : Addr) (cd : Value) (A : Around) (outer : List Env) (s : Shared) (H : Hp) (E : XK) : Cx where
  prog := P
  w := w
  K := K
  mg := mg
  base := base
  A := A.deeper (envOfC qual scope s.heap.objs.size f cd)
  N := N
  s_0 := s
  H_0 := H
  env := envOfC qual scope s.heap.objs.size f cd
  outer := outer
  stack := envOfC qual scope s.heap.objs.size f cd :: outer
  ex := []
  calm := true
  fn := fun _ => true
  pn := []
  xe := fun e s' => wpAny (model P w) (A.deeper (envOfC qual scope s.heap.objs.size f cd)) (leaving (envOfC qual scope s.heap.objs.size f cd) e) (fun _ s'' => CX outer H s E e s'') (fun e' s'' => CX outer H s E e' s'') s'
theorem cell_has {sc : Scope} {n : Nat} {x : Str} (h : sc.names.lookup x = some .cell) : ∃ c, (cellsFrom n sc.names []).lookup x = some c := by
  have q := PySem.W.cellsFrom_some sc.names n [] (.inl h)
  exact Option.isSome_iff_exists.mp q
theorem inv_start {CX : CXT} {P : Program} {w : World} {K : PySem.W.Frag} {mg : Str → Option Value} {base : Heap} {N ps : List Str} {qual : Str} {scope : Scope} {f : Addr} {cd : Value} {A : Around} {outer : List Env} {s s1 : Shared} {H : Hp} {E : XK} {us : List Value} {vs : List V}
    (S : FnScope N ps scope) (hd : A.handled = none) (e0 : Env0 P w K mg base A outer s H) (hl : vs.length = ps.length) (r : Vals vs us)
    (x : InCallC s s.heap.objs.size (bindL (envOfC qual scope s.heap.objs.size f cd).kindOf (ps.zip us) fun _ => none) (cellsFrom (s.heap.objs.size + 1) scope.names []) (bindC (envOfC qual scope s.heap.objs.size f cd).kindOf (ps.zip us) fun _ => none) s1) :
    Inv (cxOf CX P w K mg base N qual scope f cd A outer s H E) [] (start N vs) H s1 := by
  have hpl : ps.length ≤ N.length := by have := congrArg List.length S.pre; rw [List.length_take] at this; omega
  obtain ⟨h1, tk, rfl, hk⟩ := x.done
  have noA : ∀ b : Addr, b ∉ (cxOf CX P w K mg base N qual scope f cd A outer s H E).ex := fun b z => absurd (show b ∈ ([] : List Addr) from z) (by simp)
  refine ⟨⟨e0.mod, S.kind, rfl, rfl, Nat.le_refl _, fun y z c h1 h2 => ?_, fun y hy => ?_, fun y c _ h => ?_, fun _ => hd, Around.frames_deeper e0.frames, .inr ⟨rfl, rfl⟩, fun b z => absurd z (noA b), e0.bs, e0.bsz, fun b _ _ => noA b, fun b z => absurd z (noA b), e0.funs, e0.frf⟩,
    rfl, e0.bare, Un.kept hk, ⟨_, x.toInCall.ns, fun i y v h1 h2 h3 => ?_⟩, fun y c h => ⟨_, x.cell y c h⟩, e0.hok.fresh (Nat.le_refl _), fun y c h => ?_, fun p hp => absurd (show p ∈ ([] : List (Addr × Obj)) from hp) (by simp), e0.hok.kept hk, ?_⟩
  · exact name_of_addr x.apart (PySem.mem_of_lookup h1) (PySem.mem_of_lookup h2)
  · have hy : scope.names.lookup y = some .cell ∨ scope.names.lookup y = some .free := hy
    rcases hy with hy | hy
    · exact cell_has hy
    · exact absurd rfl (S.nofree _ (PySem.mem_of_lookup hy))
  · exact Nat.le_of_lt (x.above y c (PySem.mem_of_lookup h))
  · have hi : i < vs.length := by
      unfold start at h2
      by_cases hi : i < vs.length
      · exact hi
      · rw [List.getElem?_append_right (by simpa using hi)] at h2
        rw [List.getElem?_replicate] at h2
        split at h2 <;> cases h2
    have ha : vs[i]? = some v := by
      unfold start at h2
      rw [List.getElem?_append_left (by simpa using hi), List.getElem?_map] at h2
      cases e : vs[i]? with
      | none => rw [e] at h2; cases h2
      | some a => rw [e] at h2; cases h2; rfl
    obtain ⟨u, hu, rv⟩ := r.get ha
    have hp : ps[i]? = some y := by
      rw [← S.pre, List.getElem?_take_of_lt (by omega)]; exact h1
    have ndP : ps.Nodup := by rw [← S.pre]; exact S.nd.sublist (List.take_sublist _ _)
    refine ⟨u, rv, ?_⟩
    rcases S.par y (List.mem_of_getElem? hp) with k | k
    · exact .inl ⟨k, bindL_get ndP hp hu k⟩
    · obtain ⟨c, e⟩ := cell_has (n := s.heap.objs.size + 1) k
      refine .inr ⟨.inl k, c, e, ?_⟩
      have q := x.cell y c e
      rw [bindC_get ndP hp hu (by show scope.names.lookup y ≠ _; rw [k]; decide)] at q
      exact q
  · exact e0.hok.fresh (Nat.le_of_lt (x.above y c (PySem.mem_of_lookup h)))
  · unfold start
    show _ = N.length
    rw [List.length_append, List.length_map, List.length_replicate]
    omega
theorem fn_of {CX : CXT} {P : Program} {w : World} {K : PySem.W.Frag} {mg : Str → Option Value} {base : Heap} {k : Nat} {f : Addr} {name qual : Str} {params : Arguments} {body : List Stmt} {scope : Scope} {dV kV doc pm cdv ct oc : Value} {an od : Option Addr}
    {osl : Array (Option Value)} {N ps : List Str} {sp : Sp} (lk : K.lookup f = some ⟨oc, od, .func (PySem.W.fnOf name qual params body scope dV kV doc pm an cdv ct), osl⟩) (hcd : PySem.W.codeIn K cdv qual = true) (S : FnScope N ps scope)
    (len : ∀ vs H Q E, sp vs H Q E → vs.length = ps.length)
    (hbody : ∀ (A : Around) (outer : List Env) (s : Shared) (H : Hp) (vs : List V) (Q : VK) (E : XK), Room k (A.deeper (envOfC qual scope s.heap.objs.size f cdv)) → sp vs H Q E →
      ∃ t, PSs (cxOf CX P w K mg base N qual scope f cdv A outer s H E) body t ∧ t { nx := fun _ H' => Q .non H', rt := Q } (start N vs) H) :
    FnOk P w K mg base CX (k + 1) f (PySem.W.fnOf name qual params body scope dV kV doc pm an cdv ct) ps sp := by
  refine ⟨len, fun A outer s H args us vs Q E hr e0 hb r hsp => ?_⟩
  have hl := len _ _ _ _ hsp
  have KX : K.In s.heap := e0.mod.kin.keeps fun b o e => (e0.bs b o e).1
  have lim : s.heap.NoLimit := e0.mod.nolimit.keeps fun b o e => (e0.bs b o e).1
  have hkind : ∀ y ∈ ps.zip us, scope.names.lookup y.1 = some .local ∨ (scope.names.lookup y.1 = some .cell ∧ ((cellsFrom (s.heap.objs.size + 1) scope.names []).lookup y.1).isSome = true) := fun ⟨n, v⟩ hy => by
    rcases S.par n (List.of_mem_zip hy).1 with q | q
    · exact .inl q
    · exact .inr ⟨q, PySem.W.cellsFrom_some _ _ _ (.inl q)⟩
  refine codeAny_call_function hr.depth (KX _ _ lk) rfl S.co S.gen rfl (PySem.W.codeRec_of KX hcd) (hb _ _ _ _ ?_)
  refine wpAny_newFunctionEnv_cells S.kind hkind fun env he s1 x => ?_
  subst he
  refine ⟨lim.keeps x.toInCall.keep, codeAny_func ?_⟩
  obtain ⟨t, ht, hq⟩ := hbody A outer s H vs Q E (hr.deeper _) hsp
  have I : Inv (cxOf CX P w K mg base N qual scope f cdv A outer s H E) [] (start N vs) H s1 := inv_start S hr.hd e0 hl r x
  refine wpAny_mono (ht [] s1 (start N vs) H _ I hq) (fun fl s' hs => ?_) fun e s' hs => hs
  have fin : ∀ {σ' : St} {H' : Hp} {v : V} {u : Value}, Inv (cxOf CX P w K mg base N qual scope f cdv A outer s H E) [] σ' H' s' → RelV v u → Q v H' → CE outer P w H s Q u s' :=
    fun {σ' H' v u} J rv q => ⟨v, H', J.os, J.bare, J.base, J.hok, rv, q⟩
  cases fl with
  | ret u =>
    obtain ⟨v, σ', H', J, rv, q⟩ := hs
    exact fin J rv q
  | next =>
    obtain ⟨σ', H', J, q⟩ := hs
    exact fin (v := V.non) (u := Value.none) J rfl q
  | brk =>
    obtain ⟨_, _, _, q⟩ := hs
    exact False.elim q
  | cont =>
    obtain ⟨_, _, _, q⟩ := hs
    exact False.elim q
end L2
namespace L2
open PySem PySem.Spec PyProof.Rows
section
variable {X : Cx} {x : Str} {p pos : Pos} {e : Expr} {es : List Expr} {t : TA} {id T : String} {r : List V → Hp → VK → Prop}
def tCB (r : List V → Hp → VK → Prop) (t : TA) : TE := fun σ H Q => t σ H fun vs H1 => r vs H1 Q
theorem pe_callB (hc : CallR X (.builtin id) r) (hg : Gl X x) (hm : X.mg x = none) (hv : bootBuiltins x = some (.builtin id)) (ha : PA X (e :: es) t) (hn : x ≠ "__name__" := by decide) (hdb : (x == ("__debug__" : Str)) = false := by decide)
    (he : starEach (e :: es) X.env = (false, eval e X.env) :: starEach es X.env := by rfl) (hpl : (backTo pos (starEach es X.env)).any (·.1) = false := by rfl) : PE X (.Call (.Name x p) (e :: es) [] pos) (tCB r t) := by
  intro pins s σ H Q I h
  refine wpAny_Call_Name_kw (ld_blt I hg hm hv ?_ hn hdb)
  exact PyProof.Rows.callWith_builtin1 (thn (ha pos pins s σ H _ I h) fun us s1 ⟨vs, H1, I1, r1, q1⟩ => hc pins s1 σ H1 vs us Q I1 r1 q1) he hpl
theorem pe_callTy (hc : CallR X (.type T) r) (hg : Gl X x) (hm : X.mg x = none) (hv : bootBuiltins x = some (.type T)) (ha : PA X (e :: es) t) (hn : x ≠ "__name__" := by decide) (hdb : (x == ("__debug__" : Str)) = false := by decide)
    (he : starEach (e :: es) X.env = (false, eval e X.env) :: starEach es X.env := by rfl) (hpl : (backTo pos (starEach es X.env)).any (·.1) = false := by rfl) : PE X (.Call (.Name x p) (e :: es) [] pos) (tCB r t) := by
  intro pins s σ H Q I h
  refine wpAny_Call_Name_kw (ld_blt I hg hm hv ?_ hn hdb)
  exact PyProof.Rows.callWith_type1 (thn (ha pos pins s σ H _ I h) fun us s1 ⟨vs, H1, I1, r1, q1⟩ => hc pins s1 σ H1 vs us Q I1 r1 q1) he hpl
end
end L2
namespace HT
open PySem PyProof.Rows
section
open PySem.SeqAt
open PySem.AutoSeq1 (wpAny_loadPart')
open PySem.MeetsSeq PySem.MeetsSeq2 PySem.MeetsSeq3
end
section
variable {prog : Program} {w : World} {A : Around} {E : Value → Shared → Prop} {s : Shared}
def sIx (n d : Nat) : Option Int → Nat
  | none => d
  | some v => if v < 0 then (v + (n : Int)).toNat else min v.toNat n
theorem sIx_none (n d : Nat) : sIx n d none = d := rfl
theorem sIx_nat (n d k : Nat) : sIx n d (some (k : Int)) = min k n := by
  show (if (k : Int) < 0 then ((k : Int) + (n : Int)).toNat else min (k : Int).toNat n) = min k n
  rw [if_neg (by omega), Int.toNat_natCast]
end
end HT
namespace L2
open PySem PySem.Spec PyProof.Rows
abbrev TO := St → Hp → (Option Int → Hp → Prop) → Prop
def PO (X : Cx) (e : Option Expr) (t : TO) : Prop :=
  ∀ (pins : List (Addr × Obj)) (s : Shared) (σ : St) (H : Hp) (Q : Option Int → Hp → Prop), Inv X pins σ H s → t σ H Q →
    wpAny (model X.prog X.w) X.A (evalPart e X.env) (fun u s' => ∃ o H', Inv X pins σ H' s' ∧ IsPart u o ∧ Q o H') X.xe s
def tNoPart : TO := fun _ H Q => Q none H
def tPart (t : TE) : TO := fun σ H Q => t σ H fun x H1 => ∃ i, x = .int i ∧ Q (some i) H1
section
variable {X : Cx} {e : Expr} {te : TE} {lo hi : Option Expr} {tl th : TO} {pos p2 : Pos}
theorem po_none : PO X none tNoPart := by
  intro pins s σ H Q I h
  rw [evalPart_none]
  exact wpAny_pure ⟨none, H, I, .none, h⟩
theorem po_some (h : PE X e te) : PO X (some e) (tPart te) := by
  intro pins s σ H Q I hw
  rw [evalPart_some]
  refine thn (h pins s σ H _ I hw) fun u s1 ⟨x, H1, I1, r1, q1⟩ => ?_
  obtain ⟨i, rfl, q⟩ := q1
  obtain ⟨t, rfl⟩ := r1
  exact ⟨some i, H1, I1, .int i t, q⟩
def SlR (X : Cx) (r : V → Option Int → Option Int → Hp → VK → Prop) : Prop :=
  ∀ (pins : List (Addr × Obj)) (s : Shared) (σ : St) (H : Hp) (x : V) (v vl vu : Value) (lo hi : Option Int) (sl : Addr) (Q : VK), Inv X pins σ H s → RelV x v → s.heap.IsSliceOf sl vl vu .none → IsPart vl lo → IsPart vu hi → r x lo hi H Q →
    ∃ T id, typeLookup (.type T) "__getitem__" = pure (some (.builtin id)) ∧ s.TypeIs v T ∧ wpAny (model X.prog X.w) X.A (getItem v (.ref sl)) (EP X pins σ Q) X.xe s
def tSl (r : V → Option Int → Option Int → Hp → VK → Prop) (te : TE) (tl th : TO) : TE := fun σ H Q => te σ H fun x H1 => tl σ H1 fun l H2 => th σ H2 fun u H3 => r x l u H3 Q
theorem pe_slice {r : V → Option Int → Option Int → Hp → VK → Prop} (hr : SlR X r) (he : PE X e te) (hl : PO X lo tl) (hu : PO X hi th) : PE X (.Subscript e (.Slice lo hi none p2) pos) (tSl r te tl th) := by
  intro pins s σ H Q I h
  refine Subscript_ (thn (he pins s σ H _ I h) fun v s1 ⟨x, H1, I1, r1, q1⟩ => ?_)
  refine wpAny_Slice (thn (hl pins s1 σ H1 _ I1 q1) fun vl s2 ⟨l, H2, I2, pl, q2⟩ => thn (hu pins s2 σ H2 _ I2 q2) fun vu s3 ⟨u, H3, I3, pu, q3⟩ => ?_)
  rw [evalPart_none]
  refine wpAny_pure ?_
  have I4 : Inv X pins σ H3 { s3 with heap := s3.heap.push { cls := .type "slice", data := .fields #[vl, vu, .none] } } := I3.kept (t' := s3.toks) fun b ob q => Heap.get?_push_of_some _ q
  obtain ⟨T, id, hT, ht, hg⟩ := hr pins { s3 with heap := s3.heap.push { cls := .type "slice", data := .fields #[vl, vu, .none] } } σ H3 x v vl vu l u s3.heap.objs.size Q I4 r1 (Heap.IsSliceOf.new ..) pl pu q3
  show wpAny (model X.prog X.w) X.A (subscriptTail e (.Slice lo hi none p2) v (.ref s3.heap.objs.size)) (EP X pins σ Q) X.xe { s3 with heap := s3.heap.push { cls := .type "slice", data := .fields #[vl, vu, .none] } }
  exact tail_any (ops := [.ref s3.heap.objs.size, v]) ht hT hg (by with_unfolding_all rfl)
def cutV (xs : List V) (lo hi : Option Int) : List V := (xs.drop (HT.sIx xs.length 0 lo)).take (HT.sIx xs.length xs.length hi - HT.sIx xs.length 0 lo)
theorem cutV_length (xs : List V) (lo hi : Option Int) : (cutV xs lo hi).length ≤ xs.length := by
  unfold cutV
  rw [List.length_take, List.length_drop]
  omega
end
end L2
namespace L2
open PySem PySem.Spec PyProof.Rows
def ixN (n : Nat) (i : Int) : Option Nat := if 0 ≤ i then (if i < n then some i.toNat else none) else if -(n : Int) ≤ i then some (i + n).toNat else none
def atI {α : Type} (xs : List α) (i : Int) : Option α := (ixN xs.length i).bind fun j => xs[j]?
theorem ixN_seq {n : Nat} {i : Int} {j : Nat} (h : ixN n i = some j) : seqIndex? i n = some j ∧ j < n ∧ -(n : Int) ≤ i ∧ i < n := by
  unfold ixN at h
  by_cases h0 : 0 ≤ i
  · rw [if_pos h0] at h
    by_cases h1 : i < n
    · rw [if_pos h1] at h
      have e : i.toNat = j := Option.some.inj h
      exact ⟨by rw [seqIndex_of h0 h1, e], by omega, by omega, h1⟩
    · rw [if_neg h1] at h; cases h
  · rw [if_neg h0] at h
    by_cases h1 : -(n : Int) ≤ i
    · rw [if_pos h1] at h
      have e : (i + n).toNat = j := Option.some.inj h
      exact ⟨by rw [seqIndex_neg (by omega) h1, e], by omega, h1, by omega⟩
    · rw [if_neg h1] at h; cases h
theorem atI_get {α : Type} {xs : List α} {i : Int} {v : α} (h : atI xs i = some v) : ∃ j, seqIndex? i xs.length = some j ∧ xs[j]? = some v ∧ j < xs.length ∧ -(xs.length : Int) ≤ i ∧ i < xs.length := by
  unfold atI at h
  cases e : ixN xs.length i with
  | none => rw [e] at h; cases h
  | some j =>
    rw [e] at h
    obtain ⟨h1, h2, h3, h4⟩ := ixN_seq e
    exact ⟨j, h1, h, h2, h3, h4⟩
theorem atI_nat {α : Type} {xs : List α} {j : Nat} {v : α} (h : xs[j]? = some v) : atI xs (j : Int) = some v := by
  have hj : j < xs.length := (List.getElem?_eq_some_iff.mp h).1
  have e : ixN xs.length (j : Int) = some j := by
    unfold ixN
    rw [if_pos (by omega), if_pos (by omega)]; simp
  unfold atI; rw [e]; exact h
def PlainIx (b : Expr) : Prop := ∀ o i, subscripted b false o i = operate [o, i] (getItem o i)
def IxR (X : Cx) (r : R2) : Prop :=
  ∀ (value slice : Expr) (pins : List (Addr × Obj)) (s : Shared) (σ : St) (H : Hp) (x y : V) (v u : Value) (Q : VK), Inv X pins σ H s → RelV x v → RelV y u → r x y H Q →
    subscripted slice false v u = operate [v, u] (getItem v u) → wpAny (model X.prog X.w) X.A (subscriptTail value slice v u) (EP X pins σ Q) X.xe s
def MtR (X : Cx) (id : String) (r : V → List V → Hp → VK → Prop) : Prop :=
  ∀ (pins : List (Addr × Obj)) (s : Shared) (σ : St) (H : Hp) (x : V) (xs : List V) (v : Value) (us : List Value) (Q : VK), Inv X pins σ H s → RelV x v → Vals xs us → r x xs H Q →
    wpAny (model X.prog X.w) X.A (call (.builtin id) (v :: us)) (EP X pins σ Q) X.xe s
section
variable {X : Cx} {a b : Expr} {ta tb : TE} {pos : Pos}
theorem pe_ix {r : R2} (hr : IxR X r) (ha : PE X a ta) (hb : PE X b tb) (hs : PlainIx b) : PE X (.Subscript a b pos) (tOp r ta tb) := by
  intro pins s σ H Q I h
  exact Subscript_ (binT ha hb I h fun v u s2 x y H2 I2 rx ry q => hr a b pins s2 σ H2 x y v u Q I2 rx ry q (hs _ _))
def rIxL (K : PySem.W.Frag) : R2 := fun x y H Q => ∃ p xs i v, x = .ref p ∧ y = .int i ∧ SqL K H p xs ∧ atI xs i = some v ∧ Q v H
theorem ix_list : IxR X (rIxL X.K) := by
  intro value slice pins s σ H x y v u Q I rx ry h hs
  obtain ⟨p, xs, i, z, rfl, rfl, hq, he, q⟩ := h
  cases rx
  obtain ⟨t, rfl⟩ := ry
  obtain ⟨its, r, pl, hz⟩ := I.list hq
  obtain ⟨j, h1, h2, h3, h4, h5⟩ := atI_get he
  obtain ⟨w, ew, rw'⟩ := r.get h2
  have hl := r.length
  have hn := line63
  have fin : EP X pins σ Q w s := ⟨z, H, I, rw', q⟩
  by_cases h0 : 0 ≤ i
  · have hj : i.toNat = j := by
      rw [seqIndex_of h0 h5] at h1
      exact Option.some.inj h1
    exact item_listR pl.isList h0 (by omega) (by rw [hj]; simpa using ew) fin hs
  · have hj : (i + (its.toArray.size : Int)).toNat = j := by
      rw [seqIndex_neg (by omega) h4] at h1
      rw [List.size_toArray, ← hl]
      exact Option.some.inj h1
    exact subscriptTail_builtinR (x := w) pl.isList.typeIs slot_list_getitem.lookup
      (wpAny_getItem_list_neg (Q := fun r s' => r = w ∧ EP X pins σ Q r s') pl.isList (by omega) (by rw [List.size_toArray] <;> omega) (by omega) (by rw [hj]; simpa using ew) ⟨rfl, fin⟩) hs
theorem slice_bounds (lo hi : Option Int) (n : Nat) : (sliceBounds lo hi none n).1 = ((HT.sIx n 0 lo : Nat) : Int) ∧ (sliceBounds lo hi none n).2.1 = ((HT.sIx n n hi : Nat) : Int) ∧ (sliceBounds lo hi none n).2.2 = 1 := by
  refine ⟨?_, ?_, rfl⟩
  · cases lo with
    | none => simp [sliceBounds, HT.sIx]
    | some i =>
      simp only [sliceBounds, HT.sIx, Option.getD_none, show (1 : Int) > 0 by decide, if_true]
      by_cases h : i < 0
      · simp only [h, if_true] <;> omega
      · simp only [h, if_false] <;> omega
  · cases hi with
    | none => simp [sliceBounds, HT.sIx]
    | some i =>
      simp only [sliceBounds, HT.sIx, Option.getD_none, show (1 : Int) > 0 by decide, if_true]
      by_cases h : i < 0
      · simp only [h, if_true] <;> omega
      · simp only [h, if_false] <;> omega
theorem slicePick_cut (its : List Value) (lo hi : Option Int) : slicePick its.toArray lo hi none = ((its.drop (HT.sIx its.length 0 lo)).take (HT.sIx its.length its.length hi - HT.sIx its.length 0 lo)).toArray := by
  obtain ⟨h1, h2, h3⟩ := slice_bounds lo hi its.toArray.size
  unfold slicePick
  rw [h1, h2, h3]
  simp only [sliceRange_one, pick_run, List.size_toArray] <;> rfl
def rSlL (K : PySem.W.Frag) : V → Option Int → Option Int → Hp → VK → Prop := fun x lo hi H Q => ∃ a xs, x = .ref a ∧ SqL K H a xs ∧ ∀ p, H p = none → Q (.ref p) (upd H p (.lst (cutV xs lo hi)))
theorem sl_list : SlR X (rSlL X.K) := by
  intro pins s σ H x v vl vu lo hi sl Q I rx hs pl pu h
  obtain ⟨a, xs, rfl, hx, q⟩ := h
  cases rx
  obtain ⟨its, r, ht, hz⟩ := I.list hx
  have hlen := r.length
  refine ⟨"list", _, slot_list_getitem.lookup, ht.isList.typeIs, ?_⟩
  refine wpAny_getItem_list_slice ht.isList hs pl pu .none (by simp) ?_ (by rw [List.size_toArray] <;> omega)
  rw [slicePick_cut, ← hlen]
  refine ⟨.ref s.heap.objs.size, _, I.laid (t' := s.toks) (o := .lst (cutV xs lo hi)) (fun b ob q => Heap.get?_push_of_some _ q) (Nat.le_refl _) ?_, rfl, q _ (I.hok.fresh (Nat.le_refl _))⟩
  exact ⟨Nat.le_trans (cutV_length xs lo hi) hz, _, 0, (r.drop (HT.sIx xs.length 0 lo)).take (HT.sIx xs.length xs.length hi - HT.sIx xs.length 0 lo), Heap.get?_push_size _ rfl⟩
def flatV : V → Bool
  | .non => true
  | .bl _ => true
  | .int _ => true
  | .str _ => true
  | _ => false
def eqV : V → V → Bool
  | .non, .non => true
  | .bl a, .bl b => a == b
  | .bl a, .int b => (if a then 1 else 0) == b
  | .int a, .bl b => a == (if b then 1 else 0)
  | .int a, .int b => a == b
  | .str a, .str b => a == b
  | _, _ => false
theorem eqAt_V {A : Around} {s : Shared} {y x : V} {u v : Value} (ry : RelV y u) (rx : RelV x v) (fy : flatV y = true) (fx : flatV x = true) : SeqAt.EqAt A s u v (eqV y x) := by
  cases y with
  | non =>
    cases ry
    cases x with
    | non => cases rx; exact SeqAt.EqAt.same _
    | bl b => cases rx; exact SeqAt.EqAt.none_bool b
    | int b => obtain ⟨t, rfl⟩ := rx; exact SeqAt.EqAt.none_int b t
    | str b => obtain ⟨t, rfl⟩ := rx; exact SeqAt.EqAt.none_str b t
    | _ => exact absurd (show false = true from fx) Bool.false_ne_true
  | bl a =>
    cases ry
    cases x with
    | non => cases rx; exact SeqAt.EqAt.bool_none a
    | bl b => cases rx; exact SeqAt.EqAt.bool_bool a b
    | int b => obtain ⟨t, rfl⟩ := rx; exact SeqAt.EqAt.bool_int a b t
    | str b => obtain ⟨t, rfl⟩ := rx; exact SeqAt.EqAt.bool_str a b t
    | _ => exact absurd (show false = true from fx) Bool.false_ne_true
  | int a =>
    obtain ⟨t', rfl⟩ := ry
    cases x with
    | non => cases rx; exact SeqAt.EqAt.int_none a t'
    | bl b => cases rx; exact SeqAt.EqAt.int_bool a t' b
    | int b => obtain ⟨t, rfl⟩ := rx; exact SeqAt.EqAt.int_int a t' b t
    | str b => obtain ⟨t, rfl⟩ := rx; exact SeqAt.EqAt.int_str a t' b t
    | _ => exact absurd (show false = true from fx) Bool.false_ne_true
  | str a =>
    obtain ⟨t', rfl⟩ := ry
    cases x with
    | non => cases rx; exact SeqAt.EqAt.str_none a t'
    | bl b => cases rx; exact SeqAt.EqAt.str_bool a t' b
    | int b => obtain ⟨t, rfl⟩ := rx; exact SeqAt.EqAt.str_int a t' b t
    | str b => obtain ⟨t, rfl⟩ := rx; exact SeqAt.EqAt.str_str a t' b t
    | _ => exact absurd (show false = true from fx) Bool.false_ne_true
  | _ => exact absurd (show false = true from fy) Bool.false_ne_true
def eqU (x : V) (u : Value) : Bool := match u with
  | .none => eqV .non x
  | .bool b => eqV (.bl b) x
  | .int i _ => eqV (.int i) x
  | .str z _ => eqV (.str z) x
  | _ => false
theorem eqU_of {x y : V} {u : Value} (r : RelV y u) (f : flatV y = true) : eqU x u = eqV y x := by
  cases y with
  | non => cases r; rfl
  | bl b => cases r; rfl
  | int i => obtain ⟨t, rfl⟩ := r; rfl
  | str z => obtain ⟨t, rfl⟩ := r; rfl
  | _ => exact absurd (show false = true from f) Bool.false_ne_true
theorem any_eqU {x : V} : ∀ {xs : List V} {us : List Value}, Vals xs us → xs.all flatV = true → us.any (eqU x) = xs.any fun y => eqV y x
  | _, _, .nil, _ => rfl
  | y :: xs, u :: us, .cons r t, f => by
    rw [List.all_cons, Bool.and_eq_true] at f
    rw [List.any_cons, List.any_cons, eqU_of r f.1, any_eqU t f.2]
theorem mem_eqAt {A : Around} {s : Shared} {x : V} {v : Value} (rx : RelV x v) (fx : flatV x = true) : ∀ {xs : List V} {us : List Value}, Vals xs us → xs.all flatV = true → ∀ u ∈ us, SeqAt.EqAt A s u v (eqU x u)
  | _, _, .nil, _ => fun u hu => by cases hu
  | y :: xs, u :: us, .cons r t, f => fun u' hu => by
    rw [List.all_cons, Bool.and_eq_true] at f
    rcases List.mem_cons.mp hu with rfl | hu
    · rw [eqU_of r f.1]; exact eqAt_V r rx f.1 fx
    · exact mem_eqAt rx fx t f.2 u' hu
def inV (x : V) (xs : List V) : Bool := xs.any fun y => eqV y x
def rIn (K : PySem.W.Frag) (neg : Bool) : R2 := fun x y H Q => ∃ p xs, y = .ref p ∧ (SqL K H p xs ∨ SqT K H p xs) ∧ flatV x = true ∧ xs.all flatV = true ∧ Q (.bl (if neg then !inV x xs else inV x xs)) H
theorem op_in_seq : OpR X (compareOp .In) (rIn X.K false) := by
  intro pins s σ H x y v u Q I rx ry h
  obtain ⟨p, xs, rfl, hq, fx, fs, q⟩ := h
  cases ry
  rcases hq with hq | hq
  · obtain ⟨its, r, pl, hz⟩ := I.list hq
    refine SeqAt.in_listAt (eqU x) pl.isList (fun w hw => mem_eqAt rx fx r fs w (by simpa using hw)) ⟨.bl _, H, I, rfl, ?_⟩
    rw [show its.toArray.any (eqU x) = its.any (eqU x) by simp, any_eqU r fs]
    exact q
  · obtain ⟨its, r, pl, hz⟩ := I.tuple hq
    refine SeqAt.in_tupleAt (eqU x) pl (fun w hw => mem_eqAt rx fx r fs w (by simpa using hw)) ⟨.bl _, H, I, rfl, ?_⟩
    rw [show its.toArray.any (eqU x) = its.any (eqU x) by simp, any_eqU r fs]
    exact q
theorem op_notIn_seq : OpR X (compareOp .NotIn) (rIn X.K true) := by
  intro pins s σ H x y v u Q I rx ry h
  obtain ⟨p, xs, rfl, hq, fx, fs, q⟩ := h
  cases ry
  rcases hq with hq | hq
  · obtain ⟨its, r, pl, hz⟩ := I.list hq
    refine SeqAt.notIn_listAt (eqU x) pl.isList (fun w hw => mem_eqAt rx fx r fs w (by simpa using hw)) ⟨.bl _, H, I, rfl, ?_⟩
    rw [show its.toArray.any (eqU x) = its.any (eqU x) by simp, any_eqU r fs]
    exact q
  · obtain ⟨its, r, pl, hz⟩ := I.tuple hq
    refine SeqAt.notIn_tupleAt (eqU x) pl (fun w hw => mem_eqAt rx fx r fs w (by simpa using hw)) ⟨.bl _, H, I, rfl, ?_⟩
    rw [show its.toArray.any (eqU x) = its.any (eqU x) by simp, any_eqU r fs]
    exact q
theorem call_list_of : CallR X (.type "list") (fun xs H Q => ∃ p ys, xs = [.ref p] ∧ (SqL X.K H p ys ∨ SqT X.K H p ys) ∧ ∀ l, H l = none → Q (.ref l) (upd H l (.lst ys))) := by
  intro pins s σ H xs us Q I r h
  obtain ⟨p, ys, rfl, hq, q⟩ := h
  obtain ⟨u, rfl, rx⟩ := vals1 r
  cases rx
  have fin : ∀ (its : List Value), Vals ys its → ys.length ≤ sizeLine → ∀ (h' : Heap) (c' : Nat), (∀ b o', s.heap.get? b = some o' → h'.get? b = some o') →
      h'.get? s.heap.objs.size = some { cls := .type "list", dict := none, data := .seq its.toArray c', slots := #[] } → EP X pins σ Q (.ref s.heap.objs.size) { s with heap := h' } := fun its r' hz h' c' kp e =>
    ⟨.ref s.heap.objs.size, _, I.laid (t' := s.toks) kp (Nat.le_refl _) (show ObjOk X.prog X.w _ h' _ (.lst ys) from ⟨hz, its, c', r', e⟩), rfl, q _ (I.hok.fresh (Nat.le_refl _))⟩
  rcases hq with hq | hq
  · obtain ⟨its, r', pl, hz⟩ := I.list hq
    have hlen := r'.length
    obtain ⟨o, ho, hc, n, hd⟩ := pl.isList
    exact call_list_seq p (.inl rfl) ho hc hd (fun h' c' kp e => fin its r' hz h' c' kp e) (by simp only [List.size_toArray] <;> omega)
  · obtain ⟨its, r', pl, hz⟩ := I.tuple hq
    have hlen := r'.length
    obtain ⟨o, ho, hc, n, hd⟩ := pl
    exact call_list_seq p (.inr rfl) ho hc hd (fun h' c' kp e => fin its r' hz h' c' kp e) (by simp only [List.size_toArray] <;> omega)
theorem call_tuple_of : CallR X (.type "tuple") (fun xs H Q => ∃ p ys, xs = [.ref p] ∧ ((SqL X.K H p ys ∧ ∀ l, H l = none → Q (.ref l) (upd H l (.tup ys))) ∨ (SqT X.K H p ys ∧ Q (.ref p) H))) := by
  intro pins s σ H xs us Q I r h
  obtain ⟨p, ys, rfl, h⟩ := h
  obtain ⟨u, rfl, rx⟩ := vals1 r
  cases rx
  rcases h with ⟨hq, q⟩ | ⟨hq, q⟩
  · obtain ⟨its, r', pl, hz⟩ := I.list hq
    have hlen := r'.length
    refine call_tuple_list pl.isList (fun h' kp => ?_) (by simp only [List.size_toArray] <;> omega)
    have I1 : Inv X pins σ H { s with heap := h' } := I.kept (t' := s.toks) kp
    have I2 : Inv X pins σ (upd H h'.objs.size (.tup ys)) { s with heap := h'.push { cls := .type "tuple", data := .seq its.toArray } } :=
      I1.laid (t' := s.toks) (fun b o e => Heap.get?_push_of_some _ e) (Nat.le_refl _) (show ObjOk X.prog X.w _ _ _ (.tup ys) from ⟨hz, its, r', IsTup.new _ _⟩)
    exact ⟨.ref h'.objs.size, _, I2, rfl, q _ (I1.hok.fresh (Nat.le_refl _))⟩
  · obtain ⟨its, r', pl, hz⟩ := I.tuple hq
    exact call_tuple_same pl ⟨.ref p, H, I, rfl, q⟩
def tyV (K : PySem.W.Frag) (T : String) (x : V) (H : Hp) : Prop := match x with
  | .str _ => T = "str"
  | .int _ => T = "int"
  | .ref p => (T = "list" ∧ ∃ xs, SqL K H p xs) ∨ (T = "tuple" ∧ ∃ o, K.lookup p = some o ∧ o.cls = .type "tuple" ∧ o.dict = none) ∨
      (T = "dict" ∧ ((∃ kvs, H p = some (.dK kvs)) ∨ ∃ kvs, H p = some (.dT kvs))) ∨ (T = "set" ∧ ∃ S n, H p = some (.set S n))
  | _ => False
theorem tyV_is {pins : List (Addr × Obj)} {σ : St} {H : Hp} {s : Shared} {T : String} {x : V} {v : Value} (I : Inv X pins σ H s) (r : RelV x v) (ty : tyV X.K T x H) :
    s.TypeIs v T ∧ ∀ a, v = .ref a → ∃ ob, s.heap.get? a = some ob ∧ ob.dict = none := by
  cases x with
  | str z =>
    obtain ⟨t, rfl⟩ := r
    cases (show T = "str" from ty)
    exact ⟨typeIs_str s z t, fun _ e => nomatch e⟩
  | int i =>
    obtain ⟨t, rfl⟩ := r
    cases (show T = "int" from ty)
    exact ⟨typeIs_int s i t, fun _ e => nomatch e⟩
  | ref p =>
    cases r
    rcases ty with ⟨rfl, xs, hq⟩ | ⟨rfl, o, hk, hc, hd⟩ | ⟨rfl, hk⟩ | ⟨rfl, S, n, hk⟩
    · obtain ⟨its, _, pl, _⟩ := I.list hq
      refine ⟨pl.isList.typeIs, fun a e => ?_⟩
      cases e
      obtain ⟨o, n, e, c, hd, _⟩ := pl
      exact ⟨o, e, hd⟩
    · refine ⟨⟨o, I.kIn p o hk, hc⟩, fun a e => ?_⟩
      cases e
      exact ⟨o, I.kIn _ o hk, hd⟩
    · have z : ∃ o, s.heap.get? p = some o ∧ o.ExactDict := by
        rcases hk with ⟨kvs, hk⟩ | ⟨kvs, hk⟩
        · obtain ⟨_, _, _, _, o, _, _, e, ex, _⟩ := I.hok p _ hk
          exact ⟨o, e, ex⟩
        · obtain ⟨_, _, _, _, o, _, _, e, ex, _⟩ := I.hok p _ hk
          exact ⟨o, e, ex⟩
      obtain ⟨o, e, ex⟩ := z
      refine ⟨⟨o, e, ex.1⟩, fun a e2 => ?_⟩
      cases e2
      exact ⟨o, e, ex.2.1⟩
    · obtain ⟨o, _, _, _, e, ex, _⟩ := I.hok p _ hk
      refine ⟨⟨o, e, ex.1⟩, fun a e2 => ?_⟩
      cases e2
      exact ⟨o, e, ex.2.1⟩
  | _ => exact False.elim ty
def tBM (K : PySem.W.Frag) (T : String) (r : V → List V → Hp → VK → Prop) (to : TE) (t : TA) : TE := fun σ H Q => to σ H fun x H1 => tyV K T x H1 ∧ t σ H1 fun xs H2 => r x xs H2 Q
variable {o e : Expr} {es : List Expr} {to : TE} {t : TA} {name : Str} {apos cpos : Pos} {T id : String} {r : V → List V → Hp → VK → Prop}
theorem pe_bm (pa : PlainAttrs T) (slot : Slot T name id) (hty : typeOf (.builtin id) = pure (.type "method_descriptor")) (hm : MtR X id r) (ho : PE X o to) (ha : PA X (e :: es) t)
    (hbase : attributeBase o name X.env (eval o X.env) = eval o X.env := by rfl)
    (hfew : ((backTo cpos (starEach (e :: es) X.env)).all (fun x => !x.1) && (backToKw cpos (keywordEach [] X.env)).all (fun x => x.1.isSome)
      && decide ((e :: es).length + ([] : List Keyword).length + (if ([] : List Keyword).isEmpty then 0 else 1) < 30)) = true := by rfl)
    (hline : (apos.endLine == cpos.line) = true := by rfl) (hs : starEach (e :: es) X.env = (false, eval e X.env) :: starEach es X.env := by rfl) (hplain : (backTo cpos (starEach es X.env)).any (·.1) = false := by rfl) :
    PE X (.Call (.Attribute o name apos) (e :: es) [] cpos) (tBM X.K T r to t) := by
  intro pins s σ H Q I h
  refine wpAny_Call_method_late hbase hfew hline rfl (thn (ho pins s σ H _ I h) fun v s1 ⟨x, H1, I1, r1, ty, q1⟩ => ?_)
  obtain ⟨h1, h2⟩ := tyV_is I1 r1 ty
  refine ⟨T, id, pa, slot, hty, h1, h2, ?_⟩
  have hA := ha cpos pins s1 σ H1 _ I1 q1
  rw [hs] at hA ⊢
  refine Calls.callWith_builtin (by show (false || (backTo cpos (starEach es X.env)).any (·.1)) = false; rw [hplain] <;> rfl) (Calls.evalArgs_plain ?_)
  exact thn hA fun us s2 ⟨vs, H2, I2, r2, q2⟩ => hm pins s2 σ H2 x vs v us Q I2 r1 r2 q2
end
end L2
namespace L2
open PySem PySem.Spec PyProof.Rows
def MtM (X : Cx) (id : String) (r : V → List V → Hp → VK → Prop) : Prop :=
  ∀ (pins : List (Addr × Obj)) (s : Shared) (σ : St) (H : Hp) (x : V) (xs : List V) (v : Value) (us : List Value) (Q : VK), Inv X pins σ H s → RelV x v → Vals xs us → r x xs H Q →
    wpAny (model X.prog X.w) X.A (call (.builtin id) (v :: us)) (EP X pins σ Q) X.xe s
theorem Vals.one : ∀ {x : V} {us : List Value}, Vals [x] us → ∃ u, us = [u] ∧ RelV x u
  | _, _, .cons r .nil => ⟨_, rfl, r⟩
section
variable {X : Cx} {pins : List (Addr × Obj)} {σ : St} {H : Hp} {s : Shared} {l b : Addr} {xs ys zs : List V}
theorem Inv.lset {its its' : List Value} {n : Nat} {f : Array Value → Array Value} {t' : Nat} (I : Inv X pins σ H s) (hH : H l = some (.lst xs))
    (e : s.heap.get? l = some { cls := .type "list", data := .seq its.toArray n }) (hf : f its.toArray = its'.toArray) (hv : Vals ys its') (hz : ys.length ≤ sizeLine) :
    Inv X pins σ (upd H l (.lst ys)) { s with heap := s.heap.update l (Obj.mapSeq f), toks := t' } := by
  have q := PySem.IsL.update e f
  rw [hf] at q
  refine I.write (x := l) (e := l) (by rw [hH]; exact trivial) (.inl rfl) (fun b' u hb hu => (Heap.get?_update_other s.heap (Obj.mapSeq f) (Ne.symm hb)).trans hu) ⟨_, q⟩ ?_
  exact ⟨hz, its', _, hv, q⟩
theorem Inv.lnew {its : List Value} {t' : Nat} (I : Inv X pins σ H s) (hv : Vals ys its) (hz : ys.length ≤ sizeLine) :
    Inv X pins σ (upd H s.heap.objs.size (.lst ys)) { s with heap := s.heap.push { cls := .type "list", data := .seq its.toArray }, toks := t' } :=
  I.laid (fun _ _ q => Heap.get?_push_of_some _ q) (Nat.le_refl _) ⟨hz, its, 0, hv, Heap.get?_push_size _ rfl⟩
theorem Inv.fresh (I : Inv X pins σ H s) : H s.heap.objs.size = none := I.hok.fresh (Nat.le_refl _)
theorem Inv.lstM (I : Inv X pins σ H s) (hH : H l = some (.lst xs)) : xs.length ≤ sizeLine ∧ ∃ (its : List Value) (n : Nat), Vals xs its ∧ xs.length = its.length ∧ s.heap.get? l = some { cls := .type "list", data := .seq its.toArray n } := by
  obtain ⟨z, its, n, r, e⟩ := I.hok l _ hH
  exact ⟨z, its, n, r, r.length, e⟩
theorem notLongL {n : Nat} (h : n ≤ sizeLine) : Builtin.List.listTooLong n = false := by
  unfold Builtin.List.listTooLong
  exact decide_eq_false (by omega)
end
section
variable {X : Cx}
def rAppend : V → List V → Hp → VK → Prop := fun x vs H Q => ∃ l xs y, x = .ref l ∧ vs = [y] ∧ H l = some (.lst xs) ∧ xs.length < sizeLine ∧ Q .non (upd H l (.lst (xs ++ [y])))
theorem mt_append : MtM X "list.append" rAppend := by
  intro pins s σ H x vs v us Q I rx rv h
  obtain ⟨l, xs, y, rfl, rfl, hH, hz, q⟩ := h
  cases rx
  obtain ⟨u, rfl, ru⟩ := rv.one
  obtain ⟨z, its, n, r, hl, e⟩ := I.lstM hH
  refine call_meets F.slot_list_append ⟨_, e, rfl⟩ F.entry_list_append (F.args_list_append_2 _ _) (PySem.list_append l its.toArray n u (by rw [List.size_toArray]; omega)) ⟨e, ?_⟩
  refine ⟨.non, _, I.lset (its' := its ++ [u]) hH e (by simp) (r.append (.cons ru .nil)) ?_, rfl, q⟩
  rw [List.length_append, List.length_singleton]
  omega
def rExtend : V → List V → Hp → VK → Prop := fun x vs H Q => ∃ l b xs zs, x = .ref l ∧ vs = [.ref b] ∧ H l = some (.lst xs) ∧ H b = some (.lst zs) ∧ xs.length + zs.length ≤ sizeLine ∧ Q .non (upd H l (.lst (xs ++ zs)))
theorem mt_extend : MtM X "list.extend" rExtend := by
  intro pins s σ H x vs v us Q I rx rv h
  obtain ⟨l, b, xs, zs, rfl, rfl, hH, hB, hz, q⟩ := h
  cases rx
  obtain ⟨u, rfl, ru⟩ := rv.one
  cases ru
  obtain ⟨z, its, n, r, hl, e⟩ := I.lstM hH
  obtain ⟨z2, its2, n2, r2, hl2, e2⟩ := I.lstM hB
  have hsz : its.toArray.size + its2.toArray.size ≤ sizeLine := by rw [List.size_toArray, List.size_toArray]; omega
  have hlong : ¬ (!its.toArray.isEmpty && Builtin.List.listTooLong (its.toArray.size + its2.toArray.size)) = true := by
    rw [notLongL hsz, Bool.and_false]
    exact Bool.false_ne_true
  refine call_meets F.slot_list_extend ⟨_, e, rfl⟩ F.entry_list_extend (F.args_list_extend_2 _ _)
    (AutoSeq1.list_extend_list_list_0 l its.toArray n b its2.toArray n2 hlong (by rw [List.size_toArray]; omega) (by omega)) ⟨e, e2, ?_⟩
  refine ⟨.non, _, I.lset (its' := its ++ its2) hH e (by simp) (r.append r2) ?_, rfl, q⟩
  rw [List.length_append]
  omega
def rCat : R2 := fun x y H Q => ∃ l b xs zs, x = .ref l ∧ y = .ref b ∧ H l = some (.lst xs) ∧ H b = some (.lst zs) ∧ xs.length + zs.length ≤ sizeLine ∧ ∀ p, H p = none → Q (.ref p) (upd H p (.lst (xs ++ zs)))
theorem op_cat : OpR X (binaryOp .Add) rCat := by
  intro pins s σ H x y v u Q I rx ry h
  obtain ⟨l, b, xs, zs, rfl, rfl, hH, hB, hz, q⟩ := h
  cases rx
  cases ry
  obtain ⟨z, its, n, r, hl, e⟩ := I.lstM hH
  obtain ⟨z2, its2, n2, r2, hl2, e2⟩ := I.lstM hB
  refine PySem.P.add_list e e2 ?_ (by rw [List.size_toArray, List.size_toArray]; omega)
  have ea : its.toArray ++ its2.toArray = (its ++ its2).toArray := by simp
  rw [ea]
  exact ⟨.ref _, _, I.lnew (t' := s.toks) (r.append r2) (by rw [List.length_append]; omega), rfl, q _ I.fresh⟩
end
section
variable {prog : Program} {w : World} {A : Around} {E : Value → Shared → Prop} {s : Shared}
end
section
variable {X : Cx}
end
end L2
namespace L2
open PySem PySem.Spec PyProof.Rows
theorem Vals.bls : ∀ {bs : List Bool} {us : List Value}, Vals (bs.map V.bl) us → us = bs.map Value.bool
  | [], us, h => by
    rw [List.map_nil] at h
    cases h
    rfl
  | b :: bs, us, h => by
    rw [List.map_cons] at h
    cases h with
    | cons r t =>
      cases r
      rw [Vals.bls t, List.map_cons]
theorem Vals.ref1 {a : Addr} {us : List Value} (r : Vals [V.ref a] us) : us = [Value.ref a] := by
  cases r with
  | cons r t =>
    cases t
    cases r
    rfl
section
variable {prog : Program} {w : World} {A : Around} {E : Value → Shared → Prop} {s : Shared} {l : Addr} {its : List Value} {ns : List Int} {Q : Value → Shared → Prop}
end
section
variable {X : Cx}
end
section
variable {X : Cx}
end
section
variable {X : Cx}
end
theorem iter_any {prog : Program} {w : World} {A : Around} {E : Value → Shared → Prop} {s : Shared} {l : Addr} {items : Array Value} {Q : Value → Shared → Prop} (hl : s.heap.IsList l items)
    (h : ∀ s₂ : Shared, s₂ = { s with heap := s.heap.push { cls := .type "list_iterator", data := .fields #[.ref l, .int 0 0] } } →
      (s₂.heap.IsListIter s.heap.objs.size l 0 ∧ s₂.heap.IsList l items) → l ≠ s.heap.objs.size → Q (.ref s.heap.objs.size) s₂) : wpAny (model prog w) A (pyIter (.ref l)) Q E s := by
  have hlt : l < s.heap.objs.size := by obtain ⟨_, e, _⟩ := hl; exact Heap.lt_size e
  exact wpAny_pyIter_list hl (h _ rfl ⟨⟨_, Heap.get?_push_size _ rfl, rfl, rfl⟩, hl.push _⟩ (Nat.ne_of_lt hlt))
theorem truth_bools {prog : Program} {w : World} {A : Around} {bs : List Bool} {its : List Value} (e : its = bs.map Value.bool) :
    TruthOf prog w A (fun i v => its.toArray[i]? = some v) (fun i => bs.getD i false) := fun i v s Q E hv hq => by
  have hv' : its[i]? = some v := by simpa using hv
  rw [e, List.getElem?_map] at hv'
  obtain ⟨b, hb, rfl⟩ := Option.map_eq_some_iff.mp hv'
  have hg : bs.getD i false = b := by rw [List.getD_eq_getElem?_getD, hb] <;> rfl
  have hq' : Q (bs.getD i false) s := hq
  rw [hg] at hq'
  exact wpAny_truthy_bool hq'
theorem any_range : ∀ bs : List Bool, (List.range bs.length).any (fun i => bs.getD i false) = bs.any id
  | [] => rfl
  | b :: bs => by
    rw [List.length_cons, List.range_succ_eq_map, List.any_cons, List.any_map, List.any_cons, ← any_range bs]
    all_goals rfl
theorem all_range : ∀ bs : List Bool, (List.range bs.length).all (fun i => bs.getD i false) = bs.all id
  | [] => rfl
  | b :: bs => by
    rw [List.length_cons, List.range_succ_eq_map, List.all_cons, List.all_map, List.all_cons, ← all_range bs]
    all_goals rfl
section
variable {X : Cx}
def rAll (K : PySem.W.Frag) : List V → Hp → VK → Prop := fun vs H Q => ∃ (a : Addr) (bs : List Bool), vs = [V.ref a] ∧ SqL K H a (bs.map V.bl) ∧ Q (.bl (bs.all id)) H
theorem cr_all (hc : X.calm = true) : CallR X (.builtin "all") (rAll X.K) := by
  intro pins s σ H vs us Q I r h
  obtain ⟨a, bs, rfl, hs, q⟩ := h
  obtain ⟨its, rv, hl, _⟩ := I.list hs
  rw [Vals.ref1 r]
  have hb := rv.bls
  refine call_all_walk (iter_any hl.isList fun s₂ e2 st hne => ?_)
  subst e2
  refine ⟨_, _, _, _, _, _, _, rfl, Walks.list (A := X.A.in1) (I.ok.hd hc) _ a hne its.toArray, st, truth_bools hb, fun h' tk hk => ?_⟩
  refine ⟨.bl _, H, I.kept fun b o eo => hk b o (fun hmem => ?_) (Heap.get?_push_of_some _ eo), ?_, q⟩
  · rcases List.mem_cons.mp hmem with e1 | hmem
    · exact absurd (e1 ▸ Heap.lt_size eo) (Nat.lt_irrefl _)
    · cases hmem
  · show Value.bool _ = Value.bool _
    rw [← all_range, hb, List.size_toArray, List.length_map]
end
mutual
inductive Dp (K : PySem.W.Frag) (H : Hp) : V → PyData → Prop
  | non : Dp K H .non .none
  | bl (b : Bool) : Dp K H (.bl b) (.bool b)
  | int (i : Int) : Dp K H (.int i) (.int i)
  | str (x : Str) : Dp K H (.str x) (.str x)
  | lst {a : Addr} {xs : List V} {ds : List PyData} : SqL K H a xs → DpAll K H xs ds → Dp K H (.ref a) (.list ds)
  | tup {a : Addr} {xs : List V} {ds : List PyData} : SqT K H a xs → DpAll K H xs ds → Dp K H (.ref a) (.tuple ds)
inductive DpAll (K : PySem.W.Frag) (H : Hp) : List V → List PyData → Prop
  | nil : DpAll K H [] []
  | cons {v : V} {vs : List V} {d : PyData} {ds : List PyData} : Dp K H v d → DpAll K H vs ds → DpAll K H (v :: vs) (d :: ds)
end
section
variable {X : Cx} {pins : List (Addr × Obj)} {σ : St} {H : Hp} {s : Shared}
mutual
theorem Dp.reads (I : Inv X pins σ H s) : ∀ (d : PyData) (v : V) (u : Value), Dp X.K H v d → RelV v u → ∃ as, Reads s.heap u d as
  | .none, _, _, h, r => by
    cases h
    cases r
    exact ⟨_, Reads.none⟩
  | .bool b, _, _, h, r => by
    cases h
    cases r
    exact ⟨_, Reads.bool b⟩
  | .int i, _, _, h, r => by
    cases h
    obtain ⟨t, rfl⟩ := r
    exact ⟨_, Reads.int i t⟩
  | .str x, _, _, h, r => by
    cases h
    obtain ⟨t, rfl⟩ := r
    exact ⟨_, Reads.str x t⟩
  | .list ds, _, _, h, r => by
    cases h with
    | lst hs ha =>
      cases r
      obtain ⟨its, rv, ⟨o, n, ho, hc, _, hd⟩, _⟩ := I.list hs
      obtain ⟨as, hr⟩ := Dp.readsAll I ds _ its ha rv
      exact ⟨_, Reads.list ho hc hd hr⟩
  | .tuple ds, _, _, h, r => by
    cases h with
    | tup hs ha =>
      cases r
      obtain ⟨its, rv, ⟨o, ho, hc, n, hd⟩, _⟩ := I.tuple hs
      obtain ⟨as, hr⟩ := Dp.readsAll I ds _ its ha rv
      exact ⟨_, Reads.tuple ho hc hd hr⟩
  | .dict _, _, _, h, _ => by cases h
theorem Dp.readsAll (I : Inv X pins σ H s) : ∀ (ds : List PyData) (vs : List V) (us : List Value), DpAll X.K H vs ds → Vals vs us → ∃ as, ReadsAll s.heap us ds as
  | [], _, _, h, r => by
    cases h
    cases r
    exact ⟨_, ReadsAll.nil⟩
  | d :: ds, _, _, h, r => by
    cases h with
    | cons h1 h2 =>
      cases r with
      | cons r1 r2 =>
        obtain ⟨as, q1⟩ := Dp.reads I d _ _ h1 r1
        obtain ⟨bs, q2⟩ := Dp.readsAll I ds _ _ h2 r2
        exact ⟨_, ReadsAll.cons q1 q2⟩
end
end
section
variable {X : Cx}
def rEqD (K : PySem.W.Frag) : R2 := fun x y H Q => ∃ d e, Dp K H x d ∧ Dp K H y e ∧ SeqAt.shaped d = true ∧ SeqAt.shaped e = true ∧ Q (.bl (PyData.eqv d e)) H
def rNeD (K : PySem.W.Frag) : R2 := fun x y H Q => ∃ d e, Dp K H x d ∧ Dp K H y e ∧ SeqAt.shaped d = true ∧ SeqAt.shaped e = true ∧ Q (.bl (!PyData.eqv d e)) H
theorem op_eqD (hu : X.A.units + 64 < cLine) : OpR X (compareOp .Eq) (rEqD X.K) := by
  intro pins s σ H x y v u Q I rx ry h
  obtain ⟨d, e, hd, he, sd, se, q⟩ := h
  obtain ⟨as, r1⟩ := Dp.reads I d x v hd rx
  obtain ⟨bs, r2⟩ := Dp.reads I e y u he ry
  exact SeqAt.compareEq_shaped r1 r2 sd se hu ⟨.bl _, H, I, rfl, q⟩
theorem op_neD (hu : X.A.units + 64 < cLine) : OpR X (compareOp .NotEq) (rNeD X.K) := by
  intro pins s σ H x y v u Q I rx ry h
  obtain ⟨d, e, hd, he, sd, se, q⟩ := h
  obtain ⟨as, r1⟩ := Dp.reads I d x v hd rx
  obtain ⟨bs, r2⟩ := Dp.reads I e y u he ry
  exact SeqAt.compareNe_shaped r1 r2 sd se hu ⟨.bl _, H, I, rfl, q⟩
end
end L2
namespace L2
open PySem PySem.Spec PyProof.Rows
abbrev CellAt (h : Heap) (c : Addr) (v : Option Value) : Prop := h.IsCell c v
def relS (scope sc : Scope) : Scope :=
  { scope with names := scope.names.map fun (n, k) => if (k == .free && sc.kind == .function && sc.names.lookup n == some .cell) then (n, .cell) else (n, k) }
def cloFrom (cells : List (Str × Addr)) : List (Str × NameKind) → List (Str × Addr) → List (Str × Addr)
  | [], acc => acc
  | (n, k) :: r, acc => if k == .free then cloFrom cells r ((n, (cells.lookup n).getD 0) :: acc) else cloFrom cells r acc
theorem closure_loop (env : Env) (f : Str × NameKind → List (Str × Addr) → Sem (ForInStep (List (Str × Addr))))
    (hf : ∀ n k c, f (n, k) c = if k == .free then (do let a ← cellOf env n; pure (.yield ((n, a) :: c))) else pure (.yield c)) :
    ∀ (names : List (Str × NameKind)) (acc : List (Str × Addr)), (∀ y ∈ names, y.2 = .free → ∃ c, env.cells.lookup y.1 = some c) → forIn names acc f = pure (cloFrom env.cells names acc)
  | [], acc, _ => by rw [List.forIn_nil]; rfl
  | (n, k) :: r, acc, h => by
    rw [List.forIn_cons, hf]
    have ih := fun acc => closure_loop env f hf r acc fun y hy => h y (List.mem_cons_of_mem _ hy)
    unfold cloFrom
    by_cases hk : (k == NameKind.free) = true
    · rw [if_pos hk, if_pos hk]
      obtain ⟨c, hc⟩ := h (n, k) List.mem_cons_self (by simpa using hk)
      have e : cellOf env n = pure c := by unfold cellOf; rw [hc]
      rw [e]
      have e2 : (env.cells.lookup n).getD 0 = c := by rw [hc]; rfl
      rw [e2]
      exact ih _
    · rw [if_neg hk, if_neg hk]
      exact ih _
theorem closure_ok {scope : Scope} {env : Env} (h : ∀ y ∈ scope.names, y.2 = .free → ∃ c, env.cells.lookup y.1 = some c) : closureFor scope env = pure (cloFrom env.cells scope.names []) := by
  simp only [closureFor]
  rw [closure_loop env _ (fun n k c => rfl) scope.names [] h]
  rfl
theorem mem_lookup {α : Type} : ∀ {l : List (Str × α)} {n : Str} {c : α}, (n, c) ∈ l → ∃ c', l.lookup n = some c'
  | (k, v) :: r, n, c, h => by
    rw [List.lookup_cons]
    cases hb : n == k with
    | true => exact ⟨_, rfl⟩
    | false =>
      rcases List.mem_cons.mp h with e | h
      · cases e; simp at hb
      · exact mem_lookup h
theorem cloFrom_mem {cells : List (Str × Addr)} : ∀ {names : List (Str × NameKind)} {acc : List (Str × Addr)} {n : Str} {c : Addr}, (n, c) ∈ cloFrom cells names acc → (n, c) ∈ acc ∨ ((n, .free) ∈ names ∧ c = (cells.lookup n).getD 0)
  | [], _, _, _, h => .inl h
  | (m, k) :: r, acc, n, c, h => by
    unfold cloFrom at h
    split at h
    · rename_i hk
      have hk : k = .free := by simpa using hk
      rcases cloFrom_mem h with h | ⟨h1, h2⟩
      · rcases List.mem_cons.mp h with e | h
        · cases e; exact .inr ⟨hk ▸ List.mem_cons_self, rfl⟩
        · exact .inl h
      · exact .inr ⟨List.mem_cons_of_mem _ h1, h2⟩
    · rcases cloFrom_mem h with h | ⟨h1, h2⟩
      · exact .inl h
      · exact .inr ⟨List.mem_cons_of_mem _ h1, h2⟩
theorem cloFrom_acc {cells : List (Str × Addr)} : ∀ {names : List (Str × NameKind)} {acc : List (Str × Addr)} {p : Str × Addr}, p ∈ acc → p ∈ cloFrom cells names acc
  | [], _, _, h => h
  | (m, k) :: r, acc, p, h => by
    unfold cloFrom
    split
    · exact cloFrom_acc (List.mem_cons_of_mem _ h)
    · exact cloFrom_acc h
theorem cloFrom_has {cells : List (Str × Addr)} : ∀ {names : List (Str × NameKind)} {acc : List (Str × Addr)} {n : Str}, (n, .free) ∈ names → (n, (cells.lookup n).getD 0) ∈ cloFrom cells names acc
  | (m, k) :: r, acc, n, h => by
    unfold cloFrom
    rcases List.mem_cons.mp h with e | h
    · cases e
      exact cloFrom_acc List.mem_cons_self
    · split
      · exact cloFrom_has h
      · exact cloFrom_has h
theorem cells_mem : ∀ {names : List (Str × NameKind)} {h : Heap} {acc : List (Str × Addr)} {x : Str} {c : Addr}, (x, c) ∈ cellsFrom h.objs.size names acc →
    (x, c) ∈ acc ∨ ((x, .cell) ∈ names ∧ h.objs.size ≤ c ∧ CellAt (pushCells h names) c none)
  | [], _, _, _, _, h => .inl h
  | (n, k) :: r, h, acc, x, c, hm => by
    unfold cellsFrom at hm
    unfold pushCells
    split at hm
    · rename_i hk
      rw [if_pos hk]
      have hk : k = .cell := by simpa using hk
      rw [← Heap.size_push h { cls := .type "cell", data := .cell none }] at hm
      rcases cells_mem hm with hm | ⟨h1, h2, h3⟩
      · rcases List.mem_cons.mp hm with e | hm
        · cases e
          exact .inr ⟨hk ▸ List.mem_cons_self, Nat.le_refl _, _, pushCells_keeps r _ _ _ (Heap.get?_push_size _ rfl), rfl⟩
        · exact .inl hm
      · rw [Heap.size_push] at h2
        exact .inr ⟨List.mem_cons_of_mem _ h1, Nat.le_of_succ_le h2, h3⟩
    · rename_i hk
      rw [if_neg hk]
      rcases cells_mem hm with hm | ⟨h1, h2, h3⟩
      · exact .inl hm
      · exact .inr ⟨List.mem_cons_of_mem _ h1, h2, h3⟩
theorem cells_acc : ∀ {names : List (Str × NameKind)} {n : Nat} {acc : List (Str × Addr)} {p : Str × Addr}, p ∈ acc → p ∈ cellsFrom n names acc
  | [], _, _, _, h => h
  | (m, k) :: r, n, acc, p, h => by
    unfold cellsFrom
    split
    · exact cells_acc (List.mem_cons_of_mem _ h)
    · exact cells_acc h
theorem cells_has : ∀ {names : List (Str × NameKind)} {n : Nat} {acc : List (Str × Addr)} {x : Str}, (x, .cell) ∈ names → ∃ c, (x, c) ∈ cellsFrom n names acc
  | (m, k) :: r, n, acc, x, h => by
    unfold cellsFrom
    rcases List.mem_cons.mp h with e | h
    · cases e
      exact ⟨n, cells_acc List.mem_cons_self⟩
    · split
      · exact cells_has h
      · exact cells_has h
theorem cells_inj : ∀ {names : List (Str × NameKind)} {h : Heap} {acc : List (Str × Addr)} {x y : Str} {c : Addr}, (∀ p ∈ acc, p.2 < h.objs.size) → (∀ x y c, (x, c) ∈ acc → (y, c) ∈ acc → x = y) →
    (x, c) ∈ cellsFrom h.objs.size names acc → (y, c) ∈ cellsFrom h.objs.size names acc → x = y
  | [], _, _, _, _, _, _, hi, h1, h2 => hi _ _ _ h1 h2
  | (n, k) :: r, h, acc, x, y, c, hl, hi, h1, h2 => by
    unfold cellsFrom at h1 h2
    split at h1
    · rename_i hk
      rw [if_pos hk] at h2
      rw [← Heap.size_push h { cls := .type "cell", data := .cell none }] at h1 h2
      refine cells_inj (h := h.push _) (fun p hp => ?_) (fun x y c a b => ?_) h1 h2
      · rw [Heap.size_push]
        rcases List.mem_cons.mp hp with rfl | hp
        · exact Nat.lt_succ_self _
        · exact Nat.lt_succ_of_lt (hl p hp)
      · rcases List.mem_cons.mp a with e | a <;> rcases List.mem_cons.mp b with e' | b
        · cases e; cases e'; rfl
        · cases e; exact absurd (hl _ b) (Nat.lt_irrefl _)
        · cases e'; exact absurd (hl _ a) (Nat.lt_irrefl _)
        · exact hi _ _ _ a b
    · rename_i hk
      rw [if_neg hk] at h2
      exact cells_inj hl hi h1 h2
theorem newEnv_comp {M : Model} {A : Around} {E : Value → Shared → Prop} {s : Shared} {scope : Scope} {globals : Addr} {closure : List (Str × Addr)} {qual : Str} {func : Option Addr} {code : Value} {around : Env} {builtins : Addr} {Q : Env → Shared → Prop}
    (h : Q (newEnv scope s.heap.objs.size globals (cellsFrom (s.heap.objs.size + 1) scope.names closure) qual func code (some around) builtins)
      { s with heap := pushCells (s.heap.push { cls := .type "dict", data := .dict #[] }) scope.names }) :
    wpAny M A (newFunctionEnv scope globals closure [] qual func code (some around) builtins) Q E s := by
  simp only [newFunctionEnv, Option.isSome_some, if_true]
  refine wpAny_bind (wpAny_alloc ?_)
  refine wpAny_bind (wpAny_layCells _ (fun n k c => rfl) scope.names closure _ _ ?_)
  rw [show ({ s with heap := s.heap.push { cls := .type "dict", data := .dict #[] } } : Shared).heap.objs.size = s.heap.objs.size + 1 from Heap.size_push ..]
  rw [List.forIn_nil]
  exact wpAny_bind (wpAny_pure (wpAny_pure h))
theorem lookup_relS {sc : Scope} : ∀ {names : List (Str × NameKind)} {x : Str} {k : NameKind},
    (names.map fun (n, k) => if (k == NameKind.free && sc.kind == .function && sc.names.lookup n == some .cell) then (n, NameKind.cell) else (n, k)).lookup x = some k →
    ∃ k', names.lookup x = some k' ∧ (k = k' ∨ (k' = .free ∧ k = .cell))
  | [], _, _, h => by simp at h
  | (n, k₀) :: r, x, k, h => by
    have ih := @lookup_relS sc r x k
    have h' : List.lookup x ((if (k₀ == NameKind.free && sc.kind == .function && sc.names.lookup n == some .cell) = true then (n, NameKind.cell) else (n, k₀)) :: (r.map _)) = some k := h
    cases hx : x == n with
    | true =>
      simp only [List.lookup_cons, hx]
      by_cases hc : (k₀ == NameKind.free && sc.kind == .function && sc.names.lookup n == some .cell) = true
      · rw [if_pos hc] at h'
        simp only [List.lookup_cons, hx] at h'
        cases h'
        simp only [Bool.and_eq_true, beq_iff_eq] at hc
        exact ⟨k₀, rfl, .inr ⟨hc.1.1, rfl⟩⟩
      · rw [if_neg hc] at h'
        simp only [List.lookup_cons, hx] at h'
        cases h'
        exact ⟨_, rfl, .inl rfl⟩
    | false =>
      simp only [List.lookup_cons, hx]
      by_cases hc : (k₀ == NameKind.free && sc.kind == .function && sc.names.lookup n == some .cell) = true
      · rw [if_pos hc] at h'
        simp only [List.lookup_cons, hx] at h'
        exact ih h'
      · rw [if_neg hc] at h'
        simp only [List.lookup_cons, hx] at h'
        exact ih h'
structure BlkOk (N : List Str) (sc scope : Scope) (own : List (Str × Nat)) : Prop where
  kind : scope.kind = .function
  uniq : ∀ y ∈ scope.names, scope.names.lookup y.1 = some y.2
  ix : ∀ p ∈ own, N[p.2]? = some p.1
  free : ∀ y ∈ scope.names, y.2 = .free → sc.names.lookup y.1 = some .cell ∨ sc.names.lookup y.1 = some .free
  own : ∀ y ∈ scope.names, y.2 = .local ∨ y.2 = .cell → y.1 ∈ own.map (·.1) ∨ y.1 ∉ N
def wipe (σ : St) : List Nat → St
  | [] => σ
  | v :: vs => (wipe σ vs).set v none
theorem wipe_length (σ : St) : ∀ vs : List Nat, (wipe σ vs).length = σ.length
  | [] => rfl
  | v :: vs => by unfold wipe; rw [List.length_set, wipe_length σ vs]
theorem wipe_some {σ : St} {i : Nat} {x : V} : ∀ {vs : List Nat}, (wipe σ vs)[i]? = some (some x) → σ[i]? = some (some x) ∧ i ∉ vs
  | [], h => ⟨h, by simp⟩
  | v :: vs, h => by
    unfold wipe at h
    by_cases hi : v = i
    · subst hi
      by_cases hv : v < (wipe σ vs).length
      · rw [List.getElem?_set_self hv] at h; cases h
      · rw [List.getElem?_eq_none (by simpa using hv)] at h; cases h
    · rw [List.getElem?_set_ne hi] at h
      obtain ⟨h1, h2⟩ := wipe_some h
      exact ⟨h1, by simp only [List.mem_cons, not_or]; exact ⟨fun e => hi e.symm, h2⟩⟩
abbrev Cx.blk (X : Cx) (s : Shared) (H : Hp) (scope : Scope) (cenv : Env) (fp : List Addr) : Cx := { X with s_0 := s, H_0 := H, env := cenv, outer := X.stack, ex := fp, fn := fun x => scope.names.lookup x == some .cell, pn := [], xe := fun _ _ => False }
section
variable {X : Cx} {pins : List (Addr × Obj)} {σ : St} {H : Hp} {s : Shared}
theorem block_start {scope : Scope} {own : List (Str × Nat)} {fp : List Addr} (I : Inv X pins σ H s) (ok : BlkOk X.N X.env.scope scope own) (hN : X.N.Nodup) (hfp : ∀ b ∈ fp, FpOk X pins H b ∧ b < s.heap.objs.size) :
    Inv (X.blk s H scope (compEnvC scope (cellsFrom (s.heap.objs.size + 1) scope.names (cloFrom X.env.cells scope.names [])) s.heap.objs.size X.env) fp) [] (wipe σ (own.map (·.2))) H { s with heap := pushCells (s.heap.push { cls := .type "dict", data := .dict #[] }) scope.names } := by
  have hfree : ∀ y ∈ scope.names, y.2 = .free → ∃ c, X.env.cells.lookup y.1 = some c := fun y hy e => by
    rcases ok.free y hy e with k | k
    · exact I.ok.has _ (.inl k)
    · exact I.ok.has _ (.inr k)
  generalize hcenv : compEnvC scope (cellsFrom (s.heap.objs.size + 1) scope.names (cloFrom X.env.cells scope.names [])) s.heap.objs.size X.env = cenv
  have kp : ∀ b o, s.heap.get? b = some o → (pushCells (s.heap.push { cls := .type "dict", data := .dict #[] }) scope.names).get? b = some o := fun b o e => pushCells_keeps _ _ _ _ (Heap.get?_push_of_some _ e)
  have hL : cenv.locals = s.heap.objs.size := by rw [← hcenv]; rfl
  have hcl : cenv.cells = cellsFrom (s.heap.objs.size + 1) scope.names (cloFrom X.env.cells scope.names []) := by rw [← hcenv]; rfl
  have hsc : cenv.scope = relS scope X.env.scope := by rw [← hcenv]; rfl
  rw [← Heap.size_push s.heap { cls := .type "dict", data := .dict #[] }] at hcl
  have cm : ∀ {y c}, (y, c) ∈ cloFrom X.env.cells scope.names [] → X.env.cells.lookup y = some c ∧ c < s.heap.objs.size := fun {y c} hm => by
    rcases cloFrom_mem hm with hm | ⟨h1, rfl⟩
    · cases hm
    · obtain ⟨c, hc⟩ := hfree _ h1 rfl
      rw [hc]
      obtain ⟨w, z⟩ := I.cell _ _ hc
      exact ⟨rfl, z.lt⟩
  have mem : ∀ {y c}, cenv.cells.lookup y = some c → (X.env.cells.lookup y = some c ∧ c < s.heap.objs.size) ∨ (s.heap.objs.size + 1 ≤ c ∧ CellAt (pushCells (s.heap.push { cls := .type "dict", data := .dict #[] }) scope.names) c none) := fun {y c} e => by
    rw [hcl] at e
    rcases cells_mem (PySem.mem_of_lookup e) with hm | ⟨_, h2, h3⟩
    · exact .inl (cm hm)
    · rw [Heap.size_push] at h2; exact .inr ⟨h2, h3⟩
  have look : ∀ {y}, scope.names.lookup y = some .free → ∃ c, cenv.cells.lookup y = some c ∧ X.env.cells.lookup y = some c := fun {y} hl => by
    have hy : (y, NameKind.free) ∈ scope.names := PySem.mem_of_lookup hl
    obtain ⟨c', e'⟩ := mem_lookup (cells_acc (names := scope.names) (n := (s.heap.push { cls := .type "dict", data := .dict #[] }).objs.size) (cloFrom_has (cells := X.env.cells) (acc := []) hy))
    rw [← hcl] at e'
    refine ⟨c', e', ?_⟩
    rw [hcl] at e'
    rcases cells_mem (PySem.mem_of_lookup e') with hm | ⟨h1, _, _⟩
    · exact (cm hm).1
    · have := ok.uniq _ h1
      rw [hl] at this; cases this
  have okB : (X.blk s H scope cenv fp).Ok := by
    refine ⟨I.ok.mod, by show cenv.scope.kind = _; rw [hsc]; exact ok.kind, by show cenv.globals = _; rw [← hcenv]; exact I.ok.glob, by show cenv.builtins = _; rw [← hcenv]; exact I.ok.blt, by show s.heap.objs.size ≤ cenv.locals; rw [hL]; exact Nat.le_refl _,
      fun y z c e1 e2 => ?_, fun y hy => ?_, fun y c z e => ?_, I.ok.hd, I.ok.frames, .inl rfl, fun b hb => ⟨?_, fun y c e z => ?_⟩, I.bs, Nat.le_trans I.ok.bsz I.sz, fun b o e hb => ?_, fun b hb z => ?_, I.stack, I.stkFree⟩
    · have e1 : cenv.cells.lookup y = some c := e1
      have e2 : cenv.cells.lookup z = some c := e2
      rw [hcl] at e1 e2
      refine cells_inj (fun p hp => ?_) (fun y z c a b => I.ok.inj y z c (cm a).1 (cm b).1) (PySem.mem_of_lookup e1) (PySem.mem_of_lookup e2)
      rw [Heap.size_push]
      exact Nat.lt_succ_of_lt (cm (y := p.1) (c := p.2) hp).2
    · show ∃ c, cenv.cells.lookup y = some c
      have key : ∀ k, cenv.kindOf y = some k → (k = .cell ∨ k = .free) → ∃ c, cenv.cells.lookup y = some c := fun k hk hk' => by
        unfold Env.kindOf at hk
        rw [hsc] at hk
        obtain ⟨k', e, r⟩ := lookup_relS hk
        have : k' = .cell ∨ k' = .free := by
          rcases r with rfl | ⟨rfl, _⟩
          · exact hk'
          · exact .inr rfl
        rcases this with rfl | rfl
        · obtain ⟨c, hm⟩ := cells_has (n := (s.heap.push { cls := .type "dict", data := .dict #[] }).objs.size) (acc := cloFrom X.env.cells scope.names []) (PySem.mem_of_lookup e)
          obtain ⟨c', e'⟩ := mem_lookup hm
          exact ⟨c', by rw [hcl]; exact e'⟩
        · obtain ⟨c, h1, _⟩ := look e
          exact ⟨c, h1⟩
      rcases hy with hy | hy
      · exact key _ hy (.inl rfl)
      · exact key _ hy (.inr rfl)
    · have z : (scope.names.lookup y == some NameKind.cell) = true := z
      have z : scope.names.lookup y = some .cell := by simpa using z
      have e : cenv.cells.lookup y = some c := e
      rw [hcl] at e
      rcases cells_mem (PySem.mem_of_lookup e) with hm | ⟨_, h2, _⟩
      · rcases cloFrom_mem hm with hm | ⟨h1, _⟩
        · cases hm
        · have q := ok.uniq _ h1
          rw [z] at q; cases q
      · rw [Heap.size_push] at h2
        exact Nat.le_of_succ_le h2
    · show b ≠ cenv.locals
      rw [hL]; exact Nat.ne_of_lt (hfp b hb).2
    · have e : cenv.cells.lookup y = some c := e
      rcases mem e with ⟨h1, _⟩ | ⟨h1, _⟩
      · exact (hfp b hb).1.2.2.2.2.1 y c h1 z
      · have h2 : s.heap.objs.size + 1 ≤ b := by rw [← z]; exact h1
        exact absurd (Nat.lt_of_lt_of_le (hfp b hb).2 (Nat.le_of_succ_le h2)) (Nat.lt_irrefl _)
    · rcases (hfp b hb).1.2.2.2.1 with z | z
      · exact I.ok.noex b o e z
      · exact absurd (Nat.lt_of_lt_of_le (Heap.lt_size e) (Nat.le_trans I.ok.bsz z)) (Nat.lt_irrefl _)
    · rcases List.mem_cons.mp (I.stkSub b z) with z | z
      · exact (hfp b hb).1.2.1 z
      · exact (hfp b hb).1.2.2.1 z
  refine ⟨okB, rfl, I.bare, Un.kept kp, ⟨fun _ => none, ?_, fun i y av e1 e2 e3 => ?_⟩, fun y c e => ?_, ?_, fun y c e => ?_, fun p hp => ?_, I.hok.kept kp, by rw [wipe_length]; exact I.len⟩
  · show Heap.Ns _ cenv.locals _
    rw [hL]
    exact Heap.Ns.keeps (Heap.Ns.new ..) fun b o e => pushCells_keeps _ _ _ _ e
  · obtain ⟨e2, hne⟩ := wipe_some e2
    have hfr : scope.names.lookup y = some .free ∧ (cenv.kindOf y = some .cell ∨ cenv.kindOf y = some .free) := by
      have key : ∀ k, cenv.scope.names.lookup y = some k → k = .local ∨ k = .cell ∨ k = .free → scope.names.lookup y = some .free ∧ (cenv.kindOf y = some .cell ∨ cenv.kindOf y = some .free) := fun k hk hk' => by
        have hk0 := hk
        rw [hsc] at hk
        obtain ⟨k', e, r⟩ := lookup_relS hk
        have no : ¬ (k' = .local ∨ k' = .cell) := fun hh => by
          rcases ok.own _ (PySem.mem_of_lookup e) hh with e' | e'
          · obtain ⟨p, hp, hpy⟩ := List.mem_map.mp e'
            have e3 := ok.ix p hp
            have : p.1 = y := hpy
            rw [this] at e3
            exact hne (List.mem_map.mpr ⟨p, hp, nodup_ix hN e3 e1⟩)
          · exact e' (List.mem_of_getElem? e1)
        rcases r with rfl | ⟨rfl, rfl⟩
        · rcases hk' with rfl | rfl | rfl
          · exact absurd (.inl rfl) no
          · exact absurd (.inr rfl) no
          · exact ⟨e, .inr hk0⟩
        · exact ⟨e, .inl hk0⟩
      have e3 : Vis cenv.scope y := e3
      rcases e3 with e3 | e3 | e3
      · exact key _ e3 (.inl rfl)
      · exact key _ e3 (.inr (.inl rfl))
      · exact key _ e3 (.inr (.inr rfl))
    obtain ⟨m, hn, hl⟩ := I.loc
    have hvis : Vis X.env.scope y := (ok.free _ (PySem.mem_of_lookup hfr.1) rfl).elim (fun k => .inr (.inl k)) (fun k => .inr (.inr k))
    obtain ⟨w, r, q⟩ := hl i y av e1 e2 hvis
    refine ⟨w, r, .inr ⟨hfr.2, ?_⟩⟩
    obtain ⟨c, h1, h2⟩ := look hfr.1
    rcases q with ⟨k, _⟩ | ⟨_, c', e', z⟩
    · have k : X.env.scope.names.lookup y = some .local := k
      rcases ok.free _ (PySem.mem_of_lookup hfr.1) rfl with k' | k' <;> rw [show X.env.scope.names.lookup y = _ from k'] at k <;> cases k
    · rw [h2] at e'; cases e'
      exact ⟨c, h1, z.keeps kp⟩
  · have e : cenv.cells.lookup y = some c := e
    rcases mem e with ⟨h1, _⟩ | ⟨_, z⟩
    · obtain ⟨w, z⟩ := I.cell y c h1
      exact ⟨w, z.keeps kp⟩
    · exact ⟨_, z⟩
  · show H cenv.locals = none
    rw [hL]; exact I.hok.fresh (Nat.le_refl _)
  · have e : cenv.cells.lookup y = some c := e
    rcases mem e with ⟨h1, _⟩ | ⟨h1, _⟩
    · exact I.freeC y c h1
    · exact I.hok.fresh (Nat.le_of_succ_le h1)
  · exact absurd (show p ∈ ([] : List (Addr × Obj)) ++ [] from hp) (by simp)
theorem app_ok {E : Value → Shared → Prop} {D : Addr} {xs : List V} {y : V} {v : Value} {Q : Value → Shared → Prop} (I : Inv X pins σ H s) (hD : H D = some (.lst xs)) (hz : xs.length < sizeLine) (r : RelV y v)
    (h : ∀ s', Inv X pins σ (upd H D (.lst (xs ++ [y]))) s' → Q .none s') : wpAny (model X.prog X.w) X.A (call (.builtin "list.append") [.ref D, v]) Q E s := by
  obtain ⟨hz', its, n, ri, e⟩ := I.hok D _ hD
  have hl := ri.length
  refine append_at (hsz := by rw [List.size_toArray]; omega) e fun h' sb ho' => ?_
  refine h { s with heap := h' } (I.write (t' := s.toks) (by rw [hD]; trivial) (.inl rfl) (fun b u hb q => (sb.2 b hb).trans q) ⟨_, ho'⟩ ⟨by rw [List.length_append]; exact hz, its ++ [v], n + 1, ri.append (.cons r .nil), ?_⟩)
  rw [ho']
  simp
def PTs (X : Cx) (ifs : List Expr) (t : TT) : Prop :=
  ∀ (pins : List (Addr × Obj)) (s : Shared) (σ : St) (H : Hp) (Q : Bool → Hp → Prop), Inv X pins σ H s → t σ H Q →
    wpAny (model X.prog X.w) X.A (forIn ifs true fun c r => if r = true then do let ok ← isTrue c X.env (eval c X.env); pure (ForInStep.yield ok) else pure (ForInStep.yield r)) (TP X pins σ Q) X.xe s
def tYes : TT := fun _ H Q => Q true H
theorem pts_nil : PTs X [] tYes := fun _ _ _ H _ I h => wpAny_tests_nil ⟨H, I, h⟩
end
theorem thnF {α : Type} {t : Sem α} {Q Q' : α → Shared → Prop} {M : Model} {A : Around} {E : Value → Shared → Prop} {s : Shared} (h : wpAny M A t Q (fun _ _ => False) s) (hQ : ∀ a s, Q a s → Q' a s) : wpAny M A t Q' E s := wpAny_mono h hQ fun _ _ z => False.elim z
theorem compLoop_any {prog : Program} {w : World} {A : Around} {R : Result → Shared → Prop} {s : Shared} {elt target iter : Expr} {ifs : List Expr} {scope : Scope} {pos : Pos} {it acc : Value} {env : Env} (I : Nat → Shared → Prop)
    (turn : ∀ n s, I n s → wpAny (model prog w) A (pyNext it) (fun r s₁ => match r with
      | none => R (.ok .next) s₁
      | some v => wpAny (model prog w) A (letOwnedTupleGo target it v) (fun _ s₁' => wpAny (model prog w) A (assign target env v) (fun _ s₂ =>
          wpAny (model prog w) A (forIn ifs true fun c r => if r = true then do let ok ← isTrue c env (eval c env); pure (ForInStep.yield ok) else pure (ForInStep.yield r)) (fun ok s₃ =>
            if ok = true then wpAny (model prog w) A (eval elt env) (fun x s₄ =>
              wpAny (model prog w) A (call (.builtin "list.append") [acc, x]) (fun _ s₅ => ∃ m, m < n ∧ I m s₅) (notedBy (model prog w) A env fun e s' => R (.error e) s') s₄) (notedBy (model prog w) A env fun e s' => R (.error e) s') s₃
            else ∃ m, m < n ∧ I m s₃) (notedBy (model prog w) A env fun e s' => R (.error e) s') s₂) (notedBy (model prog w) A env fun e s' => R (.error e) s') s₁') (notedBy (model prog w) A env fun e s' => R (.error e) s') s₁) (notedBy (model prog w) A env fun e s' => R (.error e) s') s)
    (n : Nat) (h : I n s) :
    codeAny (model prog w) A (.compLoop (.ListComp elt [⟨target, iter, ifs, 0⟩] scope pos) 0 it acc env) R s := by
  refine codeAny_loop rfl I (fun n s hI => ?_) n h
  show wpAny _ A ((compTurn (.ListComp elt [⟨target, iter, ifs, 0⟩] scope pos) 0 it acc env).onRaise (fun x => do noteFrame x env; theTreesLotGoes x)) _ _ s
  refine wpAny_noted ?_
  rw [compTurn_list]
  refine wpAny_bind (wpAny_standAt (wpAny_bind (wpAny_mono (turn n s hI) (fun r s₁ h₁ => ?_) fun _ _ h' => h')))
  cases r with
  | none => exact wpAny_pure h₁
  | some v =>
    refine wpAny_bind (wpAny_mono h₁ (fun _ s₁' h₁' => ?_) fun _ _ h' => h')
    refine wpAny_bind (wpAny_mono h₁' (fun _ s₂ h₂ => wpAny_bind (wpAny_mono h₂ (fun ok s₃ h₃ => ?_) fun _ _ h' => h')) fun _ _ h' => h')
    cases ok with
    | false => exact wpAny_pure ⟨rfl, h₃⟩
    | true =>
      exact wpAny_bind (wpAny_bind (wpAny_mono h₃ (fun x s₄ h₄ => wpAny_bind (wpAny_mono h₄ (fun _ s₅ h₅ => wpAny_pure (wpAny_pure ⟨rfl, h₅⟩)) fun _ _ h' => h')) fun _ _ h' => h'))
section
variable {X : Cx}
def tLc (wi : TI) (g : TG) (tt : TT) (te : TE) (vs : List Nat) : TE := fun σ H Q => wi σ H fun J H1 => ∀ D, H1 D = none → ∃ W : Nat → Nat → Hp → Prop, (∃ m, W 0 m (upd H1 D (.lst []))) ∧ ∀ i m H, W i m H →
  (J.stop i H ∧ Q (.ref D) H) ∨ (J.go i H ∧ ∃ Nx : Hp → Prop, (∀ H', Nx H' → ∃ m', m' < m ∧ W (i + 1) m' H') ∧ ∀ x H', J.yld i H x H' → g x (wipe σ vs) H' fun σ2 H2 => wipe σ2 vs = wipe σ vs ∧ tt σ2 H2 fun b H3 =>
    if b = true then te σ2 H3 fun y H4 => ∃ acc, H4 D = some (.lst acc) ∧ acc.length < sizeLine ∧ Nx (upd H4 D (.lst (acc ++ [y]))) else Nx H3)
theorem lc_core {pins : List (Addr × Obj)} {s : Shared} {σ : St} {H : Hp} {Q : VK} {elt tg iter : Expr} {ifs : List Expr} {scope : Scope} {own : List (Str × Nat)} {pos pos' : Pos} {wi : TI} {g : TG} {tt : TT} {te : TE} {use : Option (Value → Sem Unit)} {Qf : Value → Shared → Prop}
    (hc : X.calm = true) (hN : X.N.Nodup) (I : Inv X pins σ H s) (hi : PI X tg iter wi) (ok : BlkOk X.N X.env.scope scope own)
    (hg : ∀ (s : Shared) (H : Hp) (C : Addr) (cl : List (Str × Addr)) (fp : List Addr), PG (X.blk s H scope (compEnvC scope cl C X.env) fp) tg g) (ht : ∀ (s : Shared) (H : Hp) (C : Addr) (cl : List (Str × Addr)) (fp : List Addr), PTs (X.blk s H scope (compEnvC scope cl C X.env) fp) ifs tt)
    (he : ∀ (s : Shared) (H : Hp) (C : Addr) (cl : List (Str × Addr)) (fp : List Addr), PE (X.blk s H scope (compEnvC scope cl C X.env) fp) elt te) (hs : ∀ x, foldedSetIterable iter X.env x = pure x)
    (h : tLc wi g tt te (own.map (·.2)) σ H Q)
    (hRR : ∀ D C s' m H', Inv X pins σ H' s' → Q (.ref D) H' → s'.heap.Ns C m → FpOk X pins H' C → compPost (model X.prog X.w) X.A X.xe use Qf (.ref D) C (.ok .next) s') :
    wpAny (model X.prog X.w) X.A (comprehension (.ListComp elt [⟨tg, iter, ifs, 0⟩] scope pos) scope X.env pos' (newList []) false (eval iter X.env) use) Qf X.xe s := by
  have hfree : ∀ y ∈ scope.names, y.2 = .free → ∃ c, X.env.cells.lookup y.1 = some c := fun y hy e => by
    rcases ok.free y hy e with k | k
    · exact I.ok.has _ (.inl k)
    · exact I.ok.has _ (.inr k)
  refine wpAny_comprehension_free (use := use) rfl hs (closure_ok hfree) ok.kind (fun y hy e => by rw [ok.uniq y hy, e])
    (thn (hi pins s σ H _ I h) fun xv s1 hx => thn hx fun itv s2 h2 => ?_)
  obtain ⟨it, fp, tn, J, H2, e, I2, T, st2, f2, q⟩ := h2
  subst e
  refine wpAny_newObj_type (newEnv_comp ?_) (by show 0 ≤ sizeLine; decide)
  generalize hD : s2.heap.objs.size = D
  have hDn : H2 D = none := I2.hok.fresh (Nat.le_of_eq hD)
  obtain ⟨W, ⟨m0, w0⟩, turn⟩ := q D hDn
  -- the new list
  generalize hs3 : ({ s2 with heap := s2.heap.push { cls := .type "list", data := .seq ([] : List Value).toArray } } : Shared) = s3
  have I3 : Inv X pins σ (upd H2 D (.lst [])) s3 := by
    rw [← hs3]
    refine I2.laid (t' := s2.toks) (fun b o e => Heap.get?_push_of_some _ e) (Nat.le_of_eq hD) ⟨Nat.zero_le _, [], 0, .nil, ?_⟩
    rw [← hD]
    exact Heap.get?_push_size _ rfl
  have h3 : s3.heap = s2.heap.push { cls := .type "list", data := .seq ([] : List Value).toArray } := by rw [← hs3]
  have sz : ∀ b ∈ fp, b < s2.heap.objs.size := fun b hb => by
    obtain ⟨o, e, _⟩ := T.obj _ _ st2 b hb
    exact Heap.lt_size e
  have f3 : ∀ b ∈ fp, FpOk X pins (upd H2 D (.lst [])) b ∧ b < s3.heap.objs.size := fun b hb => by
    have hlt := sz b hb
    refine ⟨⟨?_, (f2 b hb).2⟩, by rw [h3, Heap.size_push]; exact Nat.lt_succ_of_lt hlt⟩
    rw [upd_ne (by rw [← hD]; exact Nat.ne_of_lt hlt)]
    exact (f2 b hb).1
  have st3 : tn 0 s3.heap := T.keep _ _ _ st2 fun b _ o e => by rw [h3]; exact Heap.get?_push_of_some _ e
  have I4 := block_start I3 ok hN f3
  have pg := hg s3 (upd H2 D (.lst [])) s3.heap.objs.size (cellsFrom (s3.heap.objs.size + 1) scope.names (cloFrom X.env.cells scope.names [])) fp
  have pt := ht s3 (upd H2 D (.lst [])) s3.heap.objs.size (cellsFrom (s3.heap.objs.size + 1) scope.names (cloFrom X.env.cells scope.names [])) fp
  have pe := he s3 (upd H2 D (.lst [])) s3.heap.objs.size (cellsFrom (s3.heap.objs.size + 1) scope.names (cloFrom X.env.cells scope.names [])) fp
  show codeAny _ _ (.compStart (.ListComp elt [⟨tg, iter, ifs, 0⟩] scope pos) 0 (.ref it) (.ref D) (compEnvC scope (cellsFrom (s3.heap.objs.size + 1) scope.names (cloFrom X.env.cells scope.names [])) s3.heap.objs.size X.env)) (compPost (model X.prog X.w) X.A X.xe use Qf (.ref D) s3.heap.objs.size) { s3 with heap := pushCells (s3.heap.push { cls := .type "dict", data := .dict #[] }) scope.names }
  have nfp : ∀ b ∈ fp, (upd H2 D (.lst [])) b = none := fun b hb => (f3 b hb).1.1
  generalize hce : compEnvC scope (cellsFrom (s3.heap.objs.size + 1) scope.names (cloFrom X.env.cells scope.names [])) s3.heap.objs.size X.env = ce at I4 pg pt pe ⊢
  have cL : ce.locals = s3.heap.objs.size := by subst hce; rfl
  generalize hH3 : upd H2 D (.lst []) = H3 at I3 I4 pg pt pe w0 nfp f3
  generalize hs4 : ({ s3 with heap := pushCells (s3.heap.push { cls := .type "dict", data := .dict #[] }) scope.names } : Shared) = s4 at I4 ⊢
  have st4 : tn 0 s4.heap := T.keep _ _ _ st3 fun b _ o e => by rw [← hs4]; exact pushCells_keeps _ _ _ _ (Heap.get?_push_of_some _ e)
  have stat : ∀ {σ' : St} {H' : Hp} {s' : Shared}, Inv (X.blk s3 H3 scope ce fp) [] σ' H' s' → (∀ b ∈ fp, H' b = none) → ∀ b ∈ fp, FpOk (X.blk s3 H3 scope ce fp) [] H' b := fun {σ' H' s'} I' hn b hb =>
    ⟨hn b hb, (I'.ok.exf b hb).1, I'.ok.exfs b hb, .inl hb, fun x c e => (I'.ok.exf b hb).2 x c e, fun p hp => absurd (show p ∈ ([] : List (Addr × Obj)) ++ [] from hp) (by simp)⟩
  have loop : codeAny (model X.prog X.w) X.A (.compLoop (.ListComp elt [⟨tg, iter, ifs, 0⟩] scope pos) 0 (.ref it) (.ref D) ce) (compPost (model X.prog X.w) X.A X.xe use Qf (.ref D) s3.heap.objs.size) s4 := by
    refine compLoop_any (fun n s' => ∃ i H', Inv (X.blk s3 H3 scope ce fp) [] (wipe σ (own.map (·.2))) H' s' ∧ tn i s'.heap ∧ (∀ b ∈ fp, H' b = none) ∧ W i n H') ?_ m0 ⟨0, H3, I4, st4, nfp, w0⟩
    rintro n s5 ⟨i, H5, I5, st5, n5, w5⟩
    rcases turn i n H5 w5 with ⟨stop, qq⟩ | ⟨go, Nx, hNx, step⟩
    · have td := T.done (X.blk s3 H3 scope ce fp) rfl rfl rfl hc i [] s5 _ H5 (fun _ _ => False) I5 (stat I5 n5) st5 stop
      refine thnF td fun r s6 ⟨hr, I6⟩ => ?_
      subst hr
      -- back in the def's context
      have I7 : Inv X pins σ H5 s6 := I3.call' (ch := fp) I6.os I6.base I6.hok I6.bare fun b hb => ⟨(f3 b hb).1.2.2.2.1, (f3 b hb).1.2.1, (f3 b hb).1.2.2.2.2.1, (f3 b hb).1.2.2.2.2.2⟩
      have nC : H5 s3.heap.objs.size = none := by
        have z : H5 ce.locals = none := I6.free
        rw [cL] at z
        exact z
      obtain ⟨m, hn, _⟩ := I6.loc
      have hn : s6.heap.Ns ce.locals m := hn
      rw [cL] at hn
      exact hRR D s3.heap.objs.size s6 m H5 I7 qq hn (I3.fpOk (Nat.le_refl _) nC)
    · have ti := T.item (X.blk s3 H3 scope ce fp) rfl rfl rfl hc i [] s5 _ H5 (fun _ _ => False) I5 (stat I5 n5) st5 go
      refine thnF ti fun r s6 ⟨u, hr, h6⟩ => ?_
      subst hr
      refine thnF h6 fun _ s7 ⟨x, H7, I7, r7, y7, st7, n7⟩ => ?_
      have I7' := I7.pinned (stat I7 n7) (T.obj _ _ st7)
      refine thnF (pg _ s7 _ H7 x u _ I7' r7 (step x H7 y7)) fun _ s8 ⟨σ8, H8, I8, hw8, q8⟩ => ?_
      refine thnF (pt _ s8 σ8 H8 _ I8 q8) fun b s9 ⟨H9, I9, q9⟩ => ?_
      -- the turn's end
      have fin : ∀ {s' : Shared} {H' : Hp}, Inv (X.blk s3 H3 scope ce fp) ([] ++ pinsAt fp s7.heap) σ8 H' s' → Nx H' → ∃ m, m < n ∧ ∃ i H', Inv (X.blk s3 H3 scope ce fp) [] (wipe σ (own.map (·.2))) H' s' ∧ tn i s'.heap ∧ (∀ b ∈ fp, H' b = none) ∧ W i m H' := fun {s' H'} I' nx => by
        obtain ⟨m', hm, w'⟩ := hNx H' nx
        have pin' : ∀ b ∈ fp, ∀ o, s7.heap.get? b = some o → s'.heap.get? b = some o ∧ H' b = none := fun b hb o e =>
          let z := I'.pin (b, o) (List.mem_append_right _ (List.mem_append_right _ (mem_pinsAt hb e)))
          ⟨z.1, z.2.1⟩
        have hl : (wipe σ (own.map (·.2))).length = σ8.length := by rw [← hw8, wipe_length]
        refine ⟨m', hm, i + 1, H', (I'.unpinned (pins := [])).weak hl (fun j v e => ?_), T.keep _ _ _ st7 fun b hb o e => (pin' b hb o e).1, fun b hb => ?_, w'⟩
        · rw [← hw8] at e
          exact (wipe_some e).1
        · obtain ⟨o, e, _⟩ := T.obj _ _ st7 b hb
          exact (pin' b hb o e).2
      cases b with
      | false =>
        simp only [Bool.false_eq_true, if_false] at q9 ⊢
        exact fin I9 q9
      | true =>
        simp only [if_true] at q9 ⊢
        refine thnF (pe _ s9 σ8 H9 _ I9 q9) fun z s10 ⟨yv, H10, I10, r10, acc, hD10, hz10, nx⟩ => ?_
        exact app_ok (X := X.blk s3 H3 scope ce fp) I10 hD10 hz10 r10 fun s11 I11 => fin I11 nx
  exact codeAny_compStart_list loop (T.self X.A 0 _ _ _ st4 loop)
theorem pe_lc {elt tg iter : Expr} {ifs : List Expr} {scope : Scope} {own : List (Str × Nat)} {pos : Pos} {wi : TI} {g : TG} {tt : TT} {te : TE} (hc : X.calm = true) (hN : X.N.Nodup) (hi : PI X tg iter wi) (ok : BlkOk X.N X.env.scope scope own)
    (hg : ∀ (s : Shared) (H : Hp) (C : Addr) (cl : List (Str × Addr)) (fp : List Addr), PG (X.blk s H scope (compEnvC scope cl C X.env) fp) tg g) (ht : ∀ (s : Shared) (H : Hp) (C : Addr) (cl : List (Str × Addr)) (fp : List Addr), PTs (X.blk s H scope (compEnvC scope cl C X.env) fp) ifs tt)
    (he : ∀ (s : Shared) (H : Hp) (C : Addr) (cl : List (Str × Addr)) (fp : List Addr), PE (X.blk s H scope (compEnvC scope cl C X.env) fp) elt te) (hs : ∀ x, foldedSetIterable iter X.env x = pure x := by intro _; rfl) :
    PE X (.ListComp elt [⟨tg, iter, ifs, 0⟩] scope pos) (tLc wi g tt te (own.map (·.2))) := by
  intro pins s σ H Q I h
  rw [eval_ListComp]
  refine lc_core hc hN I hi ok hg ht he hs h fun D C s' m H' I' q hn f => ⟨m, hn, fun h'' sb => ?_⟩
  obtain ⟨f0, f1, f2, f3, f4, f5⟩ := f
  exact ⟨.ref D, H', I'.turned (t' := s'.toks) (fun b o hb e => (sb.2 b hb).trans e) f0 f1 f3 f4 f5, rfl, q⟩
end
theorem lc_list {K : PySem.W.Frag} {a : Addr} {xs : List V} {g : TG} {tt : TT} {te : TE} {vs : List Nat} {σ : St} {H1 : Hp} {D : Addr} {Qd : Hp → Prop} (Pv : Nat → Hp → Prop) (h0 : Pv 0 (upd H1 D (.lst []))) (hl : ∀ i H, i ≤ xs.length → Pv i H → SqL K H a xs)
    (hs : ∀ i x H, xs[i]? = some x → Pv i H → g x (wipe σ vs) H fun σ2 H2 => wipe σ2 vs = wipe σ vs ∧ tt σ2 H2 fun b H3 =>
      if b = true then te σ2 H3 fun y H4 => ∃ acc, H4 D = some (.lst acc) ∧ acc.length < sizeLine ∧ Pv (i + 1) (upd H4 D (.lst (acc ++ [y]))) else Pv (i + 1) H3) (hd : ∀ H, Pv xs.length H → Qd H) :
    ∃ W : Nat → Nat → Hp → Prop, (∃ m, W 0 m (upd H1 D (.lst []))) ∧ ∀ i m H, W i m H →
      ((Itl K a).stop i H ∧ Qd H) ∨ ((Itl K a).go i H ∧ ∃ Nx : Hp → Prop, (∀ H', Nx H' → ∃ m', m' < m ∧ W (i + 1) m' H') ∧ ∀ x H', (Itl K a).yld i H x H' → g x (wipe σ vs) H' fun σ2 H2 => wipe σ2 vs = wipe σ vs ∧ tt σ2 H2 fun b H3 =>
        if b = true then te σ2 H3 fun y H4 => ∃ acc, H4 D = some (.lst acc) ∧ acc.length < sizeLine ∧ Nx (upd H4 D (.lst (acc ++ [y]))) else Nx H3) := by
  refine ⟨fun i m H => m = xs.length - i ∧ i ≤ xs.length ∧ Pv i H, ⟨xs.length, by simp, Nat.zero_le _, h0⟩, ?_⟩
  rintro i m H ⟨rfl, hi, p⟩
  have q := hl i H hi p
  by_cases hlt : i < xs.length
  · refine .inr ⟨⟨xs, xs[i], q, by simp [hlt]⟩, Pv (i + 1), fun H' p' => ⟨xs.length - (i + 1), by omega, rfl, hlt, p'⟩, fun x H' y => ?_⟩
    obtain ⟨e, y⟩ := y
    subst e
    exact hs i x _ (y xs q) p
  · have e : i = xs.length := by omega
    subst e
    exact .inl ⟨⟨xs, q, Nat.le_refl _⟩, hd H p⟩
end L2
namespace L2
open PySem PySem.Spec PyProof.Rows
section
variable {prog : Program} {w : World} {A : Around} {R : Result → Shared → Prop} {s : Shared} {elt t0 i0 t1 i1 : Expr} {ifs0 ifs1 : List Expr} {scope : Scope} {pos : Pos} {it acc : Value} {env : Env}
end
section
variable {X : Cx}
end
end L2
namespace L2
open PySem PySem.Spec PyProof.Rows
section
variable {κ : Type} [DecidableEq κ]
def valV (kvs : List (κ × V)) (k : κ) : Option V := (kvs.find? fun kv => decide (kv.1 = k)).map (·.2)
def putK (kvs : List (κ × V)) (k : κ) (v : V) : List (κ × V) :=
  if (kvs.any fun kv => decide (kv.1 = k)) = true then kvs.map (fun kv => if kv.1 = k then (kv.1, v) else kv) else kvs ++ [(k, v)]
theorem valV_nil {k : κ} : valV ([] : List (κ × V)) k = none := rfl
theorem valV_pos {p : κ × V} {r : List (κ × V)} {k : κ} (e : p.1 = k) : valV (p :: r) k = some p.2 := by simp [valV, List.find?_cons, e]
theorem valV_neg {p : κ × V} {r : List (κ × V)} {k : κ} (e : ¬ p.1 = k) : valV (p :: r) k = valV r k := by simp [valV, List.find?_cons, e]
theorem valV_any (k : κ) : ∀ kvs : List (κ × V), (kvs.any fun kv => decide (kv.1 = k)) = (valV kvs k).isSome
  | [] => rfl
  | p :: r => by
    rw [List.any_cons]
    by_cases e : p.1 = k
    · simp only [valV_pos e, decide_eq_true e, Bool.true_or, Option.isSome_some]
    · rw [valV_neg e, decide_eq_false e, Bool.false_or]; exact valV_any k r
theorem length_putK (kvs : List (κ × V)) (k : κ) (v : V) : (putK kvs k v).length ≤ kvs.length + 1 := by
  unfold putK
  split
  · rw [List.length_map]; omega
  · rw [List.length_append, List.length_cons, List.length_nil]; omega
theorem putK_new {kvs : List (κ × V)} {k : κ} (v : V) (h : valV kvs k = none) : putK kvs k v = kvs ++ [(k, v)] := by
  unfold putK
  rw [valV_any, h]
  exact if_neg (by decide)
theorem RelO.isSome_eq {o : Option V} {u : Option Value} (r : RelO o u) : o.isSome = u.isSome := by
  cases o with
  | none => cases u with
    | none => rfl
    | some _ => exact (show False from r).elim
  | some _ => cases u with
    | none => exact (show False from r).elim
    | some _ => rfl
theorem KV.val {kvs : List (κ × V)} {vs : List (κ × Value)} (r : KV kvs vs) (k : κ) : RelO (valV kvs k) (valueAt vs k) := by
  unfold KV at r
  induction r with
  | nil => exact True.intro
  | @cons p q ps qs h t ih =>
    obtain ⟨h1, h2⟩ := h
    by_cases e : p.1 = k
    · have e' : q.1 = k := h1.symm.trans e
      have b : valueAt (q :: qs) k = some q.2 := by simp [valueAt, List.find?_cons, e']
      rw [valV_pos e, b]; exact h2
    · have e' : ¬ q.1 = k := fun z => e (h1.trans z)
      have b : valueAt (q :: qs) k = valueAt qs k := by simp [valueAt, List.find?_cons, e']
      rw [valV_neg e, b]; exact ih
theorem KV.any {kvs : List (κ × V)} {vs : List (κ × Value)} (r : KV kvs vs) (k : κ) : (kvs.any fun kv => decide (kv.1 = k)) = vs.any fun kv => decide (kv.1 = k) := by
  unfold KV at r
  induction r with
  | nil => rfl
  | cons h t ih => rw [List.any_cons, List.any_cons, ih, h.1]
theorem KV.repl {kvs : List (κ × V)} {vs : List (κ × Value)} (r : KV kvs vs) (k : κ) {y : V} {u : Value} (ry : RelV y u) :
    KV (kvs.map fun kv => if kv.1 = k then (kv.1, y) else kv) (vs.map fun kv => if kv.1 = k then (kv.1, u) else kv) := by
  unfold KV at r ⊢
  induction r with
  | nil => exact .nil
  | @cons p q ps qs h t ih =>
    rw [List.map_cons, List.map_cons]
    refine .cons ?_ ih
    obtain ⟨h1, h2⟩ := h
    by_cases e : p.1 = k
    · rw [if_pos e, if_pos (h1.symm.trans e)]; exact ⟨h1, ry⟩
    · rw [if_neg e, if_neg (fun z => e (h1.trans z))]; exact ⟨h1, h2⟩
theorem KV.put {kvs : List (κ × V)} {vs : List (κ × Value)} (r : KV kvs vs) (k : κ) {y : V} {u : Value} (ry : RelV y u) : KV (putK kvs k y) (stored vs k u) := by
  unfold putK stored
  rw [r.any k]
  by_cases e : (vs.any fun kv => decide (kv.1 = k)) = true
  · rw [if_pos e, if_pos e]; exact r.repl k ry
  · rw [if_neg e, if_neg e]; exact Paired.snoc r ⟨rfl, ry⟩
theorem KV.length {kvs : List (κ × V)} {vs : List (κ × Value)} (r : KV kvs vs) : kvs.length = vs.length := Paired.length r
end
theorem kV_is {P : Program} {w : World} {k : Key} {u : Value} (r : RelV (kV k) u) : (mixKind P w).is k u = true := by
  cases k with
  | inl i => obtain ⟨t, e⟩ := (show ∃ t, u = Value.int i t from r); subst e; exact mixKind_int P w i t
  | inr x => obtain ⟨t, e⟩ := (show ∃ t, u = Value.str x t from r); subst e; exact mixKind_str P w x t
theorem items_are {P : Program} {w : World} : ∀ {ks : List Key} {us : List Value}, Vals (ks.map kV) us → ItemsAre (mixKind P w) ks us
  | [], _, r => by rw [List.map_nil] at r; cases r; exact .nil
  | k :: ks, _, r => by
    rw [List.map_cons] at r
    cases r with
    | cons h t => exact .cons (kV_is h) (items_are t)
abbrev KT (H : Hp) : List (List Key × V) → List (List Key × Addr × Value) → Prop := Paired fun p q => p.1 = q.1 ∧ H q.2.1 = some (.tup (p.1.map kV)) ∧ RelV p.2 q.2.2
theorem KT.val {H : Hp} {kvs : List (List Key × V)} {xs : List (List Key × Addr × Value)} (r : KT H kvs xs) (k : List Key) : RelO (valV kvs k) ((atKey xs k).map (·.2)) := by
  induction r with
  | nil => exact True.intro
  | @cons p q ps qs h t ih =>
    obtain ⟨h1, _, h2⟩ := h
    by_cases e : p.1 = k
    · have e' : q.1 = k := h1.symm.trans e
      have b : atKey (q :: qs) k = some q.2 := by simp [atKey, List.find?_cons, e']
      rw [valV_pos e, b]; exact h2
    · have e' : ¬ q.1 = k := fun z => e (h1.trans z)
      have b : atKey (q :: qs) k = atKey qs k := by simp [atKey, List.find?_cons, e']
      rw [valV_neg e, b]; exact ih
theorem KT.repl {H : Hp} {kvs : List (List Key × V)} {xs : List (List Key × Addr × Value)} (r : KT H kvs xs) (k : List Key) {y : V} {u : Value} (ry : RelV y u) :
    KT H (kvs.map fun kv => if kv.1 = k then (kv.1, y) else kv) (xs.map (putAt k u)) := by
  induction r with
  | nil => exact .nil
  | @cons p q ps qs h t ih =>
    rw [List.map_cons, List.map_cons]
    refine .cons ?_ ih
    obtain ⟨h1, h2, h3⟩ := h
    unfold putAt
    by_cases e : p.1 = k
    · rw [if_pos e, if_pos (h1.symm.trans e)]; exact ⟨h1, h2, ry⟩
    · rw [if_neg e, if_neg (fun z => e (h1.trans z))]; exact ⟨h1, h2, h3⟩
theorem KT.put {H : Hp} {kvs : List (List Key × V)} {xs : List (List Key × Addr × Value)} (r : KT H kvs xs) (k : List Key) {b : Addr} {y : V} {u : Value} (hb : H b = some (.tup (k.map kV))) (ry : RelV y u) :
    KT H (putK kvs k y) (storedH xs k b u) := by
  have e : (kvs.any fun kv => decide (kv.1 = k)) = (atKey xs k).isSome := by
    rw [valV_any, (r.val k).isSome_eq, Option.isSome_map]
  unfold putK storedH
  rw [e]
  by_cases q : (atKey xs k).isSome = true
  · rw [if_pos q, if_pos q]; exact r.repl k ry
  · rw [if_neg q, if_neg q]; exact Paired.snoc r ⟨rfl, hb, ry⟩
theorem KT.keeps {H H' : Hp} {kvs : List (List Key × V)} {xs : List (List Key × Addr × Value)} (r : KT H kvs xs) (ht : ∀ b ys, H b = some (.tup ys) → H' b = some (.tup ys)) : KT H' kvs xs :=
  Paired.mapP r fun _ _ z => ⟨z.1, ht _ _ z.2.1, z.2.2⟩
section
variable {P : Program} {w : World} {H : Hp} {h : Heap} {a : Addr}
theorem rd_of {u : HO} (ok : HOk P w H h) (e : Rd H a u) : ObjOk P w H h a u := e.ok ok
theorem dk_rd {kvs : List (Key × V)} (ok : HOk P w H h) (e : Rd H a (.dK kvs)) : kvs.length ≤ sizeLine ∧ (a == sysModules) = false ∧ ∃ vs, KV kvs vs ∧ h.DictOf (mixKind P w) a vs :=
  show ObjOk P w H h a (.dK kvs) from rd_of ok e
theorem dk_of {kvs : List (Key × V)} (ok : HOk P w H h) (e : H a = some (.dK kvs)) : kvs.length ≤ sizeLine ∧ (a == sysModules) = false ∧ ∃ vs, KV kvs vs ∧ h.DictOf (mixKind P w) a vs := dk_rd ok (.inl e)
theorem key_of {ks : List Key} (ok : HOk P w H h) (e : H a = some (.tup (ks.map kV))) : (tupleKind (mixKind P w)).is h ks a := by
  obtain ⟨_, its, r, o, h1, h2, n, h3⟩ := (show ObjOk P w H h a (.tup (ks.map kV)) from ok a _ e)
  exact ⟨o, its.toArray, n, h1, h2, h3, by simpa using items_are r⟩
theorem dt_rd {kvs : List (List Key × V)} (ok : HOk P w H h) (e : Rd H a (.dT kvs)) : kvs.length ≤ sizeLine ∧ (a == sysModules) = false ∧
    ∃ xs, KT H kvs xs ∧ h.DictOfH (tupleKind (mixKind P w)) a xs := by
  obtain ⟨z, y, xs, r, o, es, ep, h1, h2, h3, h4, h5⟩ := (show ObjOk P w H h a (.dT kvs) from rd_of ok e)
  refine ⟨z, y, xs, r, o, es, ep, h1, h2, h3, h4, fun x hx => ?_, h5⟩
  have all : ∀ {l : List (List Key × V)} {m : List (List Key × Addr × Value)}, KT H l m → ∀ x ∈ m, (tupleKind (mixKind P w)).is h x.1 x.2.1 := by
    intro l m q
    induction q with
    | nil => intro x hx; exact nomatch hx
    | @cons p q ps qs hq t ih =>
      intro x hx
      rcases List.mem_cons.mp hx with e | hx
      · subst e
        exact key_of ok (by rw [← hq.1]; exact hq.2.1)
      · exact ih x hx
  exact all r x hx
theorem dt_of {kvs : List (List Key × V)} (ok : HOk P w H h) (e : H a = some (.dT kvs)) : kvs.length ≤ sizeLine ∧ (a == sysModules) = false ∧
    ∃ xs, KT H kvs xs ∧ h.DictOfH (tupleKind (mixKind P w)) a xs := dt_rd ok (.inl e)
end
def DGet (H : Hp) (a : Addr) (y : V) (r : Option V) : Prop :=
  (∃ kvs k, Rd H a (.dK kvs) ∧ y = kV k ∧ r = valV kvs k) ∨ ∃ kvs k b, Rd H a (.dT kvs) ∧ y = .ref b ∧ H b = some (.tup (k.map kV)) ∧ r = valV kvs k
def DPut (H : Hp) (a : Addr) (y v : V) (H' : Hp) : Prop :=
  (∃ kvs k, H a = some (.dK kvs) ∧ y = kV k ∧ kvs.length < sizeLine ∧ H' = upd H a (.dK (putK kvs k v))) ∨
  ∃ kvs k b, H a = some (.dT kvs) ∧ y = .ref b ∧ H b = some (.tup (k.map kV)) ∧ kvs.length < sizeLine ∧ H' = upd H a (.dT (putK kvs k v))
theorem DGet.t {H : Hp} {a b : Addr} {kvs : List (List Key × V)} {k : List Key} (e : H a = some (.dT kvs)) (eb : H b = some (.tup (k.map kV))) : DGet H a (.ref b) (valV kvs k) := .inr ⟨kvs, k, b, .inl e, rfl, eb, rfl⟩
theorem DPut.t {H : Hp} {a b : Addr} {kvs : List (List Key × V)} {k : List Key} {v : V} (e : H a = some (.dT kvs)) (eb : H b = some (.tup (k.map kV))) (hl : kvs.length < sizeLine) :
    DPut H a (.ref b) v (upd H a (.dT (putK kvs k v))) := .inr ⟨kvs, k, b, e, rfl, eb, hl, rfl⟩
section
variable {X : Cx} {pins : List (Addr × Obj)} {σ : St} {H : Hp} {s : Shared} {a : Addr} {y v : V} {u r : Value} {o : Option V} {A : Around} {E : Value → Shared → Prop}
theorem Inv.big (I : Inv X pins σ H s) : sysModules < s.heap.objs.size := by
  have h : mainGlobals < s.heap.objs.size := (I.mod.glob.keeps I.bk).lt
  exact Nat.lt_trans (by decide) h
theorem d_in {Q : Value → Shared → Prop} (hu : A.units + 1 < cLine) (I : Inv X pins σ H s) (g : DGet H a y o) (ry : RelV y u) (h : ∀ s', Inv X pins σ H s' → Q (.bool o.isSome) s') :
    wpAny (model X.prog X.w) A (compareOp .In u (.ref a)) Q E s := by
  rcases g with ⟨kvs, k, e, ey, l⟩ | ⟨kvs, k, b, e, ey, eb, l⟩
  · subst ey
    obtain ⟨z, hd, vs, rel, dd⟩ := dk_rd I.hok e
    refine wpAny_in_of (kV_is ry) hd dd.mapOf ?_
    rw [← (rel.val k).isSome_eq, ← l]
    exact h _ (I.tok _)
  · subst ey
    cases (show u = Value.ref b from ry)
    obtain ⟨z, hd, xs, rel, dd⟩ := dt_rd I.hok e
    refine wpAny_in_heap (tupleKind_room_in1 hu) (key_of I.hok eb) hd dd ?_
    have q := (rel.val k).isSome_eq
    rw [Option.isSome_map] at q
    rw [← q, ← l]
    exact h _ (I.tok _)
theorem d_write {h' : Heap} {t' : Nat} {ob : HO} (I : Inv X pins σ H s) (mu : Mut (H a)) (hs : Heap.SameBut a s.heap h') (he : ∃ q, h'.get? a = some q) (new : ObjOk X.prog X.w (upd H a ob) h' a ob) :
    Inv X pins σ (upd H a ob) { s with heap := h', toks := t' } :=
  I.write (x := a) (e := a) mu (.inl rfl) (fun b q hb z => (hs.2 b hb).trans z) he new
theorem dk_new {P : Program} {w : World} {H' : Hp} {h' : Heap} {kvs : List (Key × V)} {vs : List (Key × Value)} (z : kvs.length ≤ sizeLine) (hd : (a == sysModules) = false) (rel : KV kvs vs) (dd : h'.DictOf (mixKind P w) a vs) :
    ObjOk P w H' h' a (.dK kvs) := ⟨z, hd, vs, rel, dd⟩
theorem d_setItem {H' : Hp} {Q : Unit → Shared → Prop} (hu : A.units + 1 < cLine) (I : Inv X pins σ H s) (g : DPut H a y v H') (ry : RelV y u) (rv : RelV v r) (h : ∀ s', Inv X pins σ H' s' → Q () s') :
    wpAny (model X.prog X.w) A (setItem (.ref a) u r) Q E s := by
  rcases g with ⟨kvs, k, e, ey, l, eH⟩ | ⟨kvs, k, b, e, ey, eb, l, eH⟩
  · subst ey eH
    obtain ⟨z, hd, vs, rel, dd⟩ := dk_of I.hok e
    have hz : vs.length ≤ sizeLine := by rw [← rel.length]; exact z
    have hl : (putK kvs k v).length ≤ sizeLine := by have := length_putK kvs k v; omega
    refine wpAny_setItem_pairs (hsz := hz) (kV_is ry) dd fun h' dd' hs => h _ ?_
    have he : ∃ q, h'.get? a = some q := let ⟨q, _, _, hq, _⟩ := dd'; ⟨q, hq⟩
    exact d_write I (by rw [e]; exact True.intro) hs he (dk_new hl hd (rel.put k rv) dd')
  · subst ey eH
    cases (show u = Value.ref b from ry)
    obtain ⟨z, hd, xs, rel, dd⟩ := dt_of I.hok e
    have hz : xs.length ≤ sizeLine := by rw [← Paired.length rel]; exact z
    have hl : (putK kvs k v).length ≤ sizeLine := by have := length_putK kvs k v; omega
    refine wpAny_setItem_heap (hsz := hz) (tupleKind_room_in1 hu) (key_of I.hok eb) dd fun h' dd' hs => h _ ?_
    obtain ⟨q, es, ep, hq, h2, h3, h4, _, h5⟩ := dd'
    refine d_write I (by rw [e]; exact True.intro) hs ⟨q, hq⟩ ⟨hl, hd, _, (rel.put k eb rv).keeps fun c ys ec => ?_, q, es, ep, hq, h2, h3, h4, h5⟩
    rw [upd_ne (ne_of ec e (fun z => nomatch z))]
    exact ec
end
section
variable {X : Cx} {pins : List (Addr × Obj)} {σ : St} {H : Hp} {s : Shared} {a : Addr} {kvs : List (Key × V)} {k : Key} {u : Value} {A : Around} {E : Value → Shared → Prop}
end
def NoSl (i : Expr) : Prop := ∀ ov iv, subscripted i false ov iv = operate [ov, iv] (getItem ov iv)
theorem subD_of {prog : Program} {w : World} {A : Around} {E : Value → Shared → Prop} {s : Shared} {env : Env} {value slice : Expr} {pos : Pos} {T id : String} {Q : Value → Shared → Prop}
    (hl : typeLookup (.type T) "__getitem__" = pure (some (.builtin id))) (hs : NoSl slice)
    (h : wpAny (model prog w) A (eval value env) (fun o s₁ => wpAny (model prog w) A (eval slice env) (fun i s₂ => s₂.TypeIs o T ∧ wpAny (model prog w) A (getItem o i) Q E s₂) E s₁) E s) :
    wpAny (model prog w) A (eval (.Subscript value slice pos) env) Q E s := by
  refine Subscript_ (wpAny_mono h (fun o s₁ h₁ => wpAny_mono h₁ (fun i s₂ h₂ => ?_) fun _ _ x => x) fun _ _ x => x)
  obtain ⟨hT, h₂⟩ := h₂
  unfold subscriptTail
  refine wpAny_bind ?_
  rw [getitemInPython_of_ne hT.not_modules]
  refine wpAny_bind (wpAny_specialOf hT hl ?_)
  have fin : wpAny (model prog w) A (subscripted slice false o i) (fun r s₃ => wpAny (model prog w) A (letTemporaryGo value o r >>= fun _ => pure r) Q E s₃) E s₂ := by
    rw [hs o i]
    exact wpAny_operating (wpAny_mono h₂ (fun r s₃ h₃ => wpAny_bind (wpAny_letTemporaryGo (wpAny_pure h₃))) fun _ _ x => x)
  first
    | exact wpAny_pure (wpAny_bind fin)
    | exact wpAny_bind (wpAny_pure (wpAny_bind fin))
    | exact wpAny_bind fin
def tDIn (ty td : TE) : TE := fun σ H Q => ty σ H fun y H1 => td σ H1 fun x H2 => ∃ a o, x = .ref a ∧ DGet H2 a y o ∧ Q (.bl o.isSome) H2
def sDPut (td ty tv : TE) : TS := fun D σ H => tv σ H fun v H1 => td σ H1 fun x H2 => ty σ H2 fun y H3 => ∃ a H4, x = .ref a ∧ DPut H3 a y v H4 ∧ D.nx σ H4
section
variable {X : Cx} {o i e value : Expr} {pos pos' tpos : Pos} {td ty tv : TE}
theorem pc_din (hu : X.A.units + 1 < cLine) (hi : PE X i ty) (ho : PE X o td) : PC X .In i o (tDIn ty td) := by
  intro pins s σ H Q I h
  refine thn (hi pins s σ H _ I h) fun iv s1 ⟨y, H1, I1, ry, q1⟩ => thn (ho pins s1 σ H1 _ I1 q1) fun u s2 ⟨x, H2, I2, rx, a, ov, ex, g, q2⟩ => ?_
  subst ex
  obtain rfl : u = Value.ref a := rx
  exact d_in hu I2 g ry fun s3 I3 => ⟨.bl ov.isSome, H2, I3, rfl, q2⟩
theorem ps_dput (hu : X.A.units + 1 < cLine) (ho : PE X o td) (hi : PE X i ty) (hv : PE X value tv) (hs : swapsWith value (some (.Subscript o i pos')) pos.line X.env = pure false) :
    PS X (.Assign [.Subscript o i pos'] value pos) (sDPut td ty tv) := by
  intro pins s σ H D I h
  refine wpAny_Assign_Subscript (thn (hv pins s σ H _ I h) fun r s1 ⟨v, H1, I1, rv, q1⟩ => thn (ho pins s1 σ H1 _ I1 q1) fun u s2 ⟨x, H2, I2, rx, q2⟩ => thn (hi pins s2 σ H2 _ I2 q2) fun iv s3 ⟨y, H3, I3, ry, a, H4, ex, g, q3⟩ => ?_) hs
  subst ex
  obtain rfl : u = Value.ref a := rx
  exact d_setItem hu I3 g ry rv fun s4 I4 => ⟨σ, H4, I4, q3⟩
end
theorem dt_empty {P : Program} {w : World} {H : Hp} (h : Heap) (hb : sysModules < h.objs.size) : ObjOk P w H (h.push { cls := .type "dict", data := .dict #[] }) h.objs.size (.dT []) :=
  ⟨Nat.zero_le _, beq_eq_false_iff_ne.mpr (Ne.symm (Nat.ne_of_lt hb)), [], .nil, _, #[], 0, Heap.get?_push_size _ rfl, ⟨rfl, rfl, rfl⟩, rfl, rfl, List.nodup_nil⟩
def tDNewT : TE := fun _ H Q => ∀ p, H p = none → Q (.ref p) (upd H p (.dT []))
section
variable {X : Cx} {pos : Pos}
theorem pe_dnewT : PE X (.Dict [] [] pos) tDNewT := fun pins s σ H Q I h =>
  wpAny_Dict_empty ⟨.ref s.heap.objs.size, _, I.laid (a := s.heap.objs.size) (o := .dT []) (t' := s.toks) (fun _ _ q => Heap.get?_push_of_some _ q) (Nat.le_refl _) (dt_empty s.heap I.big), rfl, h _ (I.hok.fresh (Nat.le_refl _))⟩
end
section
variable {X : Cx} {pins : List (Addr × Obj)} {σ : St} {H : Hp} {s : Shared} {a : Addr} {y d : V} {u r : Value} {o : Option V} {A : Around} {E : Value → Shared → Prop}
end
section
variable {X : Cx} {o e f : Expr} {apos cpos : Pos} {td ty tx : TE}
end
section
variable {X : Cx} {pins : List (Addr × Obj)} {σ : St} {H : Hp} {s : Shared} {a : Addr} {kvs : List (Key × V)} {A : Around} {E : Value → Shared → Prop}
end
section
variable {X : Cx} {pins : List (Addr × Obj)} {σ : St} {H : Hp} {s : Shared} {a : Addr} {y : V} {u : Value} {A : Around} {E : Value → Shared → Prop}
end
end L2
namespace L2
open PySem PySem.Spec PyProof.Rows
section
variable {prog : Program} {w : World} {A : Around} {E : Value → Shared → Prop}
end
section
variable {X : Cx}
end
end L2
namespace L2
open PySem PySem.Spec PyProof.Rows
section
variable {X : Cx} {pins : List (Addr × Obj)} {σ : St} {H : Hp} {s : Shared} {h' : Heap}
theorem Inv.turnedNew {t' : Nat} {ch : List Addr} {T : Addr} {ob : HO} (I : Inv X pins σ H s) (k : ∀ b o, b ∉ ch → s.heap.get? b = some o → h'.get? b = some o) (hf : ∀ b ∈ ch, FpOk X pins H b) (hT : s.heap.objs.size ≤ T)
    (new : ObjOk X.prog X.w (upd H T ob) h' T ob) : Inv X pins σ (upd H T ob) { s with heap := h', toks := t' } := by
  have hn : H T = none := I.hok.fresh hT
  have nit : ∀ b u, H b = some u → b ∉ ch := fun b u e z => by
    have q := (hf b z).1
    rw [q] at e; cases e
  refine I.step (g' := s.gens) (d' := s.drawn) (ch := ch) (fun b hb => ⟨(hf b hb).2.2.2.1, (hf b hb).2.1, (hf b hb).2.2.2.2.1, (hf b hb).2.2.2.2.2⟩) (fun b o _ _ hc e _ => k b o hc e) (fun b o _ _ hc e _ => ⟨o.slots, k b o hc e⟩)
    (fun b o _ e n => ?_) (fun b o hc e => ⟨o, k b o hc e⟩) (fun b xs e => ?_) (fun b o u e => ?_) (fun b ps e => ⟨#[], ?_⟩) (fun m hm => ?_) (fun b u e => ?_) I.bare
  · rw [upd_ne (Nat.ne_of_lt (Nat.lt_of_lt_of_le (Heap.lt_size e) hT))]; exact n
  · rw [upd_ne (ne_of_none e hn)]; exact e
  · rw [upd_ne (ne_of_none e hn)]; exact e
  · rw [upd_ne (ne_of_none e hn), e]; simp
  · obtain ⟨o, es, ep, ho, r⟩ := hm
    exact ⟨o, es, ep, k _ o (fun z => (hf _ z).2.1 rfl) ho, r⟩
  · by_cases hb : b = T
    · subst hb
      rw [upd_same] at e
      cases e
      exact new
    · rw [upd_ne hb] at e
      refine (I.hok b u e).stay (fun c v hc q => k c v ?_ q) (fun c q => by rw [upd_ne (ne_of_none q hn)]; exact q) fun c xs q => by rw [upd_ne (ne_of_none q hn)]; exact q
      rcases hc with z | z
      · rw [z]; exact nit b u e
      · exact nit c _ z
theorem Inv.lock {d : Addr} {u : HO} (I : Inv X pins σ H s) (h : H d = some u) (mu : Mut (some u)) : ∃ od, Inv X pins σ (upd H d (.frz od u)) s := by
  have x := I.hok d u h
  have ex : ∃ od, s.heap.get? d = some od := by
    cases u with
    | lst xs => obtain ⟨_, _, _, _, e⟩ := x; exact ⟨_, e⟩
    | dK kvs => obtain ⟨_, _, _, _, o, _, _, e, _⟩ := x; exact ⟨o, e⟩
    | dT kvs => obtain ⟨_, _, _, _, o, _, _, e, _⟩ := x; exact ⟨o, e⟩
    | set S n => obtain ⟨o, _, _, _, e, _⟩ := x; exact ⟨o, e⟩
    | ins C dx fs => obtain ⟨_, _, _, e, _⟩ := x; exact ⟨_, e⟩
    | ext φ => obtain ⟨_, ⟨_, e⟩, _⟩ := x; exact ⟨_, e⟩
    | _ => exact False.elim mu
  obtain ⟨od, e⟩ := ex
  have new : ObjOk X.prog X.w (upd H d (.frz od u)) s.heap d (.frz od u) := by
    refine ⟨e, x.stay (fun b v _ q => q) (fun b q => ?_) fun b xs q => ?_⟩
    · rw [upd_ne (fun z => by rw [z, h] at q; cases q; exact mu)]; exact q
    · rw [upd_ne (fun z => by rw [z, h] at q; cases q; exact mu)]; exact q
  exact ⟨od, I.write (x := d) (e := d) (t' := s.toks) (h' := s.heap) (by rw [h]; exact mu) (.inl rfl) (fun b v _ q => q) ⟨od, e⟩ new⟩
theorem Inv.nofrz {d : Addr} {u : HO} (I : Inv X pins σ H s) (h : H d = some u) (mu : Mut (some u)) : ∀ o' u', X.H_0 d ≠ some (.frz o' u') := fun o' u' e => by
  have q := I.base.frzs d o' u' e
  rw [h] at q
  cases q
  exact mu
theorem Inv.unlock {d : Addr} {od : Obj} {u : HO} (I : Inv X pins σ H s) (h : H d = some (.frz od u)) (hn : ∀ o' u', X.H_0 d ≠ some (.frz o' u')) : Inv X pins σ (upd H d u) s := by
  have neH : ∀ b o, H b = some o → (∀ o' u', o ≠ .frz o' u') → b ≠ d := fun b o e hne z => by
    rw [z, h] at e
    cases e
    exact hne _ _ rfl
  have neN : ∀ b, H b = none → b ≠ d := fun b e z => by rw [z, h] at e; cases e
  refine ⟨I.ok, I.os, I.bare, ⟨I.base.keep, I.base.slot, fun b o e n hx => ?_, I.base.there, fun b xs e => ?_, fun b o x e => ?_, fun b ps e => ?_⟩, I.loc, I.cell, ?_, fun x c e => ?_, fun p hp => ?_, fun b o e => ?_, I.len⟩
  · rw [upd_ne (neN b (I.base.free b o e n hx))]; exact I.base.free b o e n hx
  · have q := I.base.tups b xs e
    rw [upd_ne (neH b _ q (fun _ _ z => nomatch z))]; exact q
  · have q := I.base.frzs b o x e
    rw [upd_ne (fun z => by rw [z] at e; exact hn _ _ e)]; exact q
  · obtain ⟨m, q⟩ := I.base.tbls b ps e
    exact ⟨m, by rw [upd_ne (neH b _ q (fun _ _ z => nomatch z))]; exact q⟩
  · rw [upd_ne (neN _ I.free)]; exact I.free
  · rw [upd_ne (neN c (I.freeC x c e))]; exact I.freeC x c e
  · obtain ⟨e, n, r⟩ := I.pin p hp
    exact ⟨e, by rw [upd_ne (neN _ n)]; exact n, r⟩
  · by_cases hb : b = d
    · rw [hb, upd_same] at e
      cases e
      rw [hb]
      obtain ⟨_, x⟩ := I.hok d _ h
      exact x.stay (fun c v _ q => q) (fun c q => by rw [upd_ne (neH c _ q (fun _ _ z => nomatch z))]; exact q) fun c xs q => by rw [upd_ne (neH c _ q (fun _ _ z => nomatch z))]; exact q
    · rw [upd_ne hb] at e
      exact (I.hok b o e).stay (fun c v _ q => q) (fun c q => by rw [upd_ne (neH c _ q (fun _ _ z => nomatch z))]; exact q) fun c xs q => by rw [upd_ne (neH c _ q (fun _ _ z => nomatch z))]; exact q
end
def tLock (t : TS) : TS := fun D σ H => ∃ d u, H d = some u ∧ Mut (some u) ∧ ∀ od, t ⟨fun σ' H' => H' d = some (.frz od u) ∧ D.nx σ' (upd H' d u), fun v H' => H' d = some (.frz od u) ∧ D.rt v (upd H' d u), fun σ' H' => H' d = some (.frz od u) ∧ D.bk σ' (upd H' d u), fun σ' H' => H' d = some (.frz od u) ∧ D.ct σ' (upd H' d u)⟩ σ (upd H d (.frz od u))
section
variable {X : Cx}
theorem ps_lock {st : Stmt} {t : TS} (h : PS X st t) : PS X st (tLock t) := by
  intro pins s σ H D I hw
  obtain ⟨d, u, hd, mu, hw⟩ := hw
  obtain ⟨od, I1⟩ := I.lock hd mu
  refine thn (h pins s σ _ _ I1 (hw od)) fun f s1 q => ?_
  cases f with
  | next => obtain ⟨σ', H', I2, e, q⟩ := q; exact ⟨σ', _, I2.unlock e (I.nofrz hd mu), q⟩
  | brk => obtain ⟨σ', H', I2, e, q⟩ := q; exact ⟨σ', _, I2.unlock e (I.nofrz hd mu), q⟩
  | cont => obtain ⟨σ', H', I2, e, q⟩ := q; exact ⟨σ', _, I2.unlock e (I.nofrz hd mu), q⟩
  | ret v => obtain ⟨x, σ', H', I2, r, e, q⟩ := q; exact ⟨x, σ', _, I2.unlock e (I.nofrz hd mu), r, q⟩
theorem pi_one {tg : Expr} {pins : List (Addr × Obj)} {σ : St} {H : Hp} {s : Shared} {R : It → Hp → Prop} {J : It} {tn : Nat → Heap → Prop} {tk : Nat} (I : Inv X pins σ H s) (o : Obj)
    (T : Turn X.prog X.w X.K tg J [s.heap.objs.size] s.heap.objs.size tn) (st : tn 0 (s.heap.push o)) (q : R J H) : PIE X pins σ tg R (.ref s.heap.objs.size) { s with heap := s.heap.push o, toks := tk } := by
  refine ⟨s.heap.objs.size, [s.heap.objs.size], tn, J, H, rfl, I.kept fun b ob e => Heap.get?_push_of_some _ e, T, st, fun b hb => ?_, q⟩
  have e : b = s.heap.objs.size := by simpa using hb
  subst e
  exact I.fpOk (Nat.le_refl _) (I.hok.fresh (Nat.le_refl _))
end
section
variable {X : Cx} {tg : Expr}
end
section
variable {X : Cx} {tg : Expr}
end
section
variable {prog : Program} {w : World} {A : Around} {E : Value → Shared → Prop} {s : Shared}
end
theorem paired_get {α β : Type} {G : α → β → Prop} {l₁ : List α} {l₂ : List β} (h : Paired G l₁ l₂) : ∀ {i : Nat} {a : α}, l₁[i]? = some a → ∃ b, l₂[i]? = some b ∧ G a b := by
  induction h with
  | nil => intro i a e; simp at e
  | @cons a b l₁ l₂ r t ih =>
    intro i a' e
    cases i with
    | zero =>
      simp only [List.getElem?_cons_zero, Option.some.injEq] at e
      subst e
      exact ⟨b, rfl, r⟩
    | succ j =>
      simp only [List.getElem?_cons_succ] at e ⊢
      exact ih e
section
variable {X : Cx} {pins : List (Addr × Obj)} {σ : St} {H : Hp} {s : Shared} {d : Addr} {o : Obj}
end
theorem dict_ep {o : Obj} {es es' : Array DictEntry} {ep ep' : Nat} (h : o.data = .dict es ep) (h' : o.data = .dict es' ep') : es' = es ∧ ep' = ep := by
  rw [h] at h'
  cases h'
  exact ⟨rfl, rfl⟩
section
variable {P : Program} {w : World} {K : PySem.W.Frag} {tg : Expr} {d : Addr} {o : Obj} {es : Array DictEntry} {ep : Nat}
end
section
variable {X : Cx} {tg e : Expr} {td : TE} {apos cpos : Pos}
end
end L2
section 
namespace Bits
open PySem PyProof.Rows
end Bits
end 
section 
namespace TL
open PySem PySem.Builtin PySem.Builtin.Str PySem.StrLaws
abbrev tl (x : Str) : List Nat := x.cps.toList
def pre (S l : List Nat) : Bool := l.take S.length == S
def par (S : List Nat) : List Nat → List Nat → Option (List Nat × List Nat)
  | _, [] => none
  | acc, c :: r => if pre S (c :: r) = true then some (acc, (c :: r).drop S.length) else par S (acc ++ [c]) r
end TL
end 
namespace L2
open PySem PySem.Spec PyProof.Rows
section
variable {X : Cx} {pins : List (Addr × Obj)} {σ : St} {H : Hp} {s : Shared} {Q : VK}
end
section
variable {X : Cx}
end
section
variable {X : Cx} {o e : Expr} {to te : TE}
end
end L2
namespace L2
open PySem PySem.Spec PyProof.Rows
section
variable {X : Cx}
end
end L2
namespace Att
open PySem PySem.W PySem.Calls PyProof.Rows
section
variable {prog : Program} {w : World} {A : Around} {E : Value → Shared → Prop} {s : Shared} {K : Frag}
end
end Att
namespace L2
open PySem PySem.Spec PyProof.Rows
end L2
namespace L2
open PySem PySem.Spec PyProof.Rows
end L2
namespace L2
open PySem PySem.Spec PyProof.Rows
abbrev CX0 : CXT := fun _ _ _ _ _ _ => False
abbrev E0 : XK := fun _ _ _ => False
theorem pass0 {X : Cx} : Passes CX0 X E0 := fun _ _ _ _ _ _ _ h => h.elim
structure Fun (K : PySem.W.Frag) (x qual : Str) (st : Stmt) (f : Addr) (fd : FuncData) : Prop where
  ex : ∃ (oc : Value) (od : Option Addr) (kV doc pm : Value) (an : Option Addr) (cdv ct : Value) (osl : Array (Option Value)),
    fd = PySem.W.fnOf x qual (defArgs st) (defBody st) (defScope st) .none kV doc pm an cdv ct ∧ K.lookup f = some ⟨oc, od, .func fd, osl⟩ ∧ PySem.W.codeIn K cdv qual = true
  kp : PySem.W.keepIn K (.ref f) = true
section
variable {P : Program} {w : World} {K : PySem.W.Frag} {mg : Str → Option Value} {base : Heap}
theorem Fun.ok {x qual : Str} {st : Stmt} {f : Addr} {fd : FuncData} {N ps : List Str} {k : Nat} {sp : Sp} (F : Fun K x qual st f fd) (S : FnScope N ps (defScope st)) (len : ∀ vs H Q E, sp vs H Q E → vs.length = ps.length)
    (hbody : ∀ (cdv : Value) (A : Around) (outer : List Env) (s : Shared) (H : Hp) (vs : List V) (Q : VK) (E : XK), Room k (A.deeper (envOfC qual (defScope st) s.heap.objs.size f cdv)) → sp vs H Q E →
      ∃ t, PSs (cxOf CX0 P w K mg base N qual (defScope st) f cdv A outer s H E).nox (defBody st) t ∧ t { nx := fun _ H' => Q .non H', rt := Q } (start N vs) H) : FnOk P w K mg base CX0 (k + 1) f fd ps sp := by
  obtain ⟨oc, od, kV, doc, pm, an, cdv, ct, osl, rfl, lk, hcd⟩ := F.ex
  refine fn_of lk hcd S len fun A outer s H vs Q E hr hsp => ?_
  obtain ⟨t, h, q⟩ := hbody cdv A outer s H vs Q E hr hsp
  exact ⟨t, h.nox, q⟩
theorem Fun.binds {x qual : Str} {st : Stmt} {f : Addr} {fd : FuncData} {ps : List Str} (F : Fun K x qual st f fd)
    (h : ∀ (kV doc pm : Value) (an : Option Addr) (cdv ct : Value) (us : List Value), us.length = ps.length → bindArgs (PySem.W.fnOf x qual (defArgs st) (defBody st) (defScope st) .none kV doc pm an cdv ct) ⟨us, []⟩ = pure (ps.zip us)) : Binds K fd ps [] := by
  obtain ⟨oc, od, kV, doc, pm, an, cdv, ct, osl, rfl, lk, hcd⟩ := F.ex
  exact .all (h kV doc pm an cdv ct)
theorem fun_mk {x qual : Str} {st : Stmt} {f : Addr} {oc : Value} {od an : Option Addr} {osl : Array (Option Value)} {kV doc pm cdv ct : Value} (l : K.lookup f = some ⟨oc, od, .func (PySem.W.fnOf x qual (defArgs st) (defBody st) (defScope st) .none kV doc pm an cdv ct), osl⟩)
    (c : PySem.W.codeIn K cdv qual = true) (k : PySem.W.keepIn K (.ref f) = true) : Fun K x qual st f (PySem.W.fnOf x qual (defArgs st) (defBody st) (defScope st) .none kV doc pm an cdv ct) := ⟨⟨oc, od, kV, doc, pm, an, cdv, ct, osl, rfl, l, c⟩, k⟩
end
theorem hu_of {A : Around} {k : Nat} (hr : Room k A) : A.units + 1 < cLine := Nat.lt_of_le_of_lt (Nat.add_le_add_left (by decide : 1 ≤ 64) _) hr.units
section
variable {X : Cx}
theorem pv (i : Nat) {x : Str} {pos : Pos} (hN : X.N[i]? = some x := by rfl) (hv : Vis X.env.scope x := by first | exact Or.inl rfl | exact Or.inr (Or.inl rfl) | exact Or.inr (Or.inr rfl)) (hd : (x == ("__debug__" : Str)) = false := by decide)
    (hcd : (x == ("__classdict__" : Str)) = false := by decide) : PE X (.Name x pos) (tVar i) := pe_var hN hv hd hcd
end
theorem iteF {A B : Prop} (h : B) : if false = true then A else B := by
  rw [if_neg Bool.false_ne_true]
  exact h
theorem iteT {A B : Prop} (h : A) : if true = true then A else B := by
  rw [if_pos rfl]
  exact h
theorem ite2 {c A B : Prop} [Decidable c] (h1 : c → A) (h2 : ¬ c → B) : if c then A else B := by
  by_cases h : c
  · rw [if_pos h]
    exact h1 h
  · rw [if_neg h]
    exact h2 h
def Same (H H' : Hp) : Prop := ∀ b o, H b = some o → H' b = some o
theorem Same.refl (H : Hp) : Same H H := fun _ _ h => h
theorem Same.trans {H H1 H2 : Hp} (a : Same H H1) (b : Same H1 H2) : Same H H2 := fun c o h => b c o (a c o h)
theorem Same.free {H H' : Hp} (e : Same H H') {l : Addr} (h : H' l = Option.none) : H l = Option.none := by
  cases q : H l with
  | none => rfl
  | some o =>
    rw [e l o q] at h
    cases h
theorem Same.seq {K : PySem.W.Frag} {H H' : Hp} {a : Addr} {xs : List V} (e : Same H H') (h : SqL K H a xs) : SqL K H' a xs := by
  rcases h with (h | ⟨o, h⟩) | h
  · exact .inl (.inl (e _ _ h))
  · exact .inl (.inr ⟨o, e _ _ h⟩)
  · exact .inr h
section
variable {κ : Type} [DecidableEq κ]
end
end L2
end
section
section
set_option Elab.async false
set_option linter.all false
set_option maxRecDepth 100000
namespace Att
open PySem PySem.W PySem.Calls PyProof.Rows
section
variable {prog : Program} {w : World} {A : Around} {E : Value → Shared → Prop} {s : Shared} {K : Frag}
end
end Att
namespace L2
open PySem PySem.Spec PyProof.Rows
end L2
namespace L2
open PySem PySem.Spec PyProof.Rows
end L2
end
section
set_option Elab.async false
set_option linter.all false
set_option maxRecDepth 100000
set_option maxHeartbeats 2000000
namespace L2
open PySem PySem.Spec PyProof.Rows
open PySem.W (WData Codec OpenSpec Well WellAll ReadsW ReadsAllW)
mutual
/-- x stands for the datum d, lists and tuples all the way -/
inductive Dw (K : PySem.W.Frag) (H : Hp) : V → WData → Prop
  | non : Dw K H .non .none
  | bl (b : Bool) : Dw K H (.bl b) (.bool b)
  | int (i : Int) : Dw K H (.int i) (.int i)
  | str (x : Str) : Dw K H (.str x) (.str x)
  | byt (b : Array UInt8) : Dw K H (.byt b) (.bytes b.toList)
  | lst {a : Addr} {xs : List V} {ds : List WData} : SqL K H a xs → DwAll K H xs ds → Dw K H (.ref a) (.list ds)
  | tup {a : Addr} {xs : List V} {ds : List WData} : SqT K H a xs → DwAll K H xs ds → Dw K H (.ref a) (.tuple ds)
inductive DwAll (K : PySem.W.Frag) (H : Hp) : List V → List WData → Prop
  | nil : DwAll K H [] []
  | cons {v : V} {vs : List V} {d : WData} {ds : List WData} : Dw K H v d → DwAll K H vs ds → DwAll K H (v :: vs) (d :: ds)
end
theorem dw_ints {K : PySem.W.Frag} {H : Hp} : ∀ ns : List Int, DwAll K H (ns.map V.int) (ns.map WData.int)
  | [] => .nil
  | n :: r => .cons (.int n) (dw_ints r)
theorem ints_dw {K : PySem.W.Frag} {H : Hp} : ∀ (ns : List Int) (xs : List V), DwAll K H xs (ns.map WData.int) → xs = ns.map V.int
  | [], xs, h => by
    cases h
    rfl
  | n :: r, xs, h => by
    cases h with
    | cons h1 h2 =>
      cases h1
      rw [ints_dw r _ h2] <;> rfl
section
variable {P : Program} {w : World} {K : PySem.W.Frag} {H : Hp} {h : Heap} {R : PySem.W.WRecords} {cl : Str → Option Addr}
theorem sqL_at {a : Addr} {xs : List V} (hok : HOk P w H h) (KX : K.In h) (q : SqL K H a xs) : ∃ (its : List Value) (o : Obj) (n : Nat), Vals xs its ∧ h.get? a = some o ∧ o.cls = .type "list" ∧ o.data = .seq its.toArray n := by
  rcases q with q | ⟨o, its, n, e, hc, _, hd, _, hv⟩
  · obtain ⟨_, its, n, hv, e⟩ := (show ObjOk P w H h a (.lst xs) from q.ok hok)
    exact ⟨its, _, n, hv, e, rfl, rfl⟩
  · exact ⟨its.toList, o, n, hv, KX _ _ e, hc, by simp [hd]⟩
theorem sqT_at {a : Addr} {xs : List V} (hok : HOk P w H h) (KX : K.In h) (q : SqT K H a xs) : ∃ (its : List Value) (o : Obj) (n : Nat), Vals xs its ∧ h.get? a = some o ∧ o.cls = .type "tuple" ∧ o.data = .seq its.toArray n := by
  rcases q with q | ⟨o, its, n, e, hc, hd, _, hv⟩
  · obtain ⟨_, its, hv, o, e, hc, n, hd⟩ := (show ObjOk P w H h a (.tup xs) from q.ok hok)
    exact ⟨its, o, n, hv, e, hc, hd⟩
  · exact ⟨its.toList, o, n, hv, KX _ _ e, hc, by simp [hd]⟩
mutual
theorem Dw.reads (hok : HOk P w H h) (KX : K.In h) : ∀ (d : WData) (v : V) (u : Value), Dw K H v d → RelV v u → ∃ as, ReadsW R cl h u d as
  | .none, _, _, x, r => by
    cases x
    cases r
    exact ⟨_, ReadsW.none⟩
  | .bool b, _, _, x, r => by
    cases x
    cases r
    exact ⟨_, ReadsW.bool b⟩
  | .int i, _, _, x, r => by
    cases x
    obtain ⟨t, rfl⟩ := r
    exact ⟨_, ReadsW.int i t⟩
  | .str s, _, _, x, r => by
    cases x
    obtain ⟨t, rfl⟩ := r
    exact ⟨_, ReadsW.str s t⟩
  | .bytes b, _, _, x, r => by
    cases x
    obtain ⟨t, rfl⟩ := r
    exact ⟨_, ReadsW.bytes _ t⟩
  | .list ds, _, _, x, r => by
    cases x with
    | lst hs ha =>
      cases r
      obtain ⟨its, o, n, rv, ho, hc, hd⟩ := sqL_at hok KX hs
      obtain ⟨as, hr⟩ := Dw.readsAll hok KX ds _ its ha rv
      exact ⟨_, ReadsW.list ho hc hd hr⟩
  | .tuple ds, _, _, x, r => by
    cases x with
    | tup hs ha =>
      cases r
      obtain ⟨its, o, n, rv, ho, hc, hd⟩ := sqT_at hok KX hs
      obtain ⟨as, hr⟩ := Dw.readsAll hok KX ds _ its ha rv
      exact ⟨_, ReadsW.tuple ho hc hd hr⟩
  | .float _, _, _, x, _ => by cases x
  | .dict _, _, _, x, _ => by cases x
  | .bytearray _, _, _, x, _ => by cases x
  | .set _, _, _, x, _ => by cases x
  | .frozenset _, _, _, x, _ => by cases x
  | .obj _ _, _, _, x, _ => by cases x
theorem Dw.readsAll (hok : HOk P w H h) (KX : K.In h) : ∀ (ds : List WData) (vs : List V) (us : List Value), DwAll K H vs ds → Vals vs us → ∃ as, ReadsAllW R cl h us ds as
  | [], _, _, x, r => by
    cases x
    cases r
    exact ⟨_, ReadsAllW.nil⟩
  | d :: ds, _, _, x, r => by
    cases x with
    | cons h1 h2 =>
      cases r with
      | cons r1 r2 =>
        obtain ⟨as, q1⟩ := Dw.reads hok KX d _ _ h1 r1
        obtain ⟨bs, q2⟩ := Dw.readsAll hok KX ds _ _ h2 r2
        exact ⟨_, ReadsAllW.cons q1 q2⟩
end
end
mutual
/-- data that a codec tells -/
def plW : WData → Bool
  | .none => true
  | .bool _ => true
  | .int _ => true
  | .str _ => true
  | .bytes _ => true
  | .list xs => plWs xs
  | .tuple xs => plWs xs
  | _ => false
def plWs : List WData → Bool
  | [] => true
  | x :: r => plW x && plWs r
end
theorem plWs_map {α : Type} {f : α → WData} (h : ∀ a, plW (f a) = true) : ∀ l : List α, plWs (l.map f) = true
  | [] => rfl
  | x :: r => by
    show (plW (f x) && plWs (r.map f)) = true
    rw [h x, plWs_map h r] <;> rfl
theorem pl_enc : ∀ (c : Codec) (a : c.denote), plW (c.enc a) = true
  | .unit, _ => rfl
  | .bool, _ => rfl
  | .int _ _, _ => rfl
  | .nat _ _, _ => rfl
  | .u8, _ => rfl
  | .bytes _ _, _ => rfl
  | .text _ _ _ _, _ => rfl
  | .list _ _ c, a => plWs_map (fun x => pl_enc c x) a
  | .pair c d, a => by
    show (plW (c.enc a.1) && (plW (d.enc a.2) && true)) = true
    rw [pl_enc c a.1, pl_enc d a.2] <;> rfl
  | .triple c d e, a => by
    show (plW (c.enc a.1) && (plW (d.enc a.2.1) && (plW (e.enc a.2.2) && true))) = true
    rw [pl_enc c a.1, pl_enc d a.2.1, pl_enc e a.2.2] <;> rfl
  | .option c, none => rfl
  | .option c, some x => pl_enc c x
theorem pl_encAll : ∀ (cs : List Codec) (a : Codec.denoteAll cs), plWs (Codec.encAll cs a) = true
  | [], _ => rfl
  | c :: cs, a => by
    show (plW (c.enc a.1) && plWs (Codec.encAll cs a.2)) = true
    rw [pl_enc c a.1, pl_encAll cs a.2] <;> rfl
theorem weight_mem : ∀ {xs : List WData} {d : WData}, d ∈ xs → d.weight ≤ WData.weightAll xs
  | [], d, h => absurd h (by simp)
  | x :: r, d, h => by
    show d.weight ≤ x.weight + 1 + WData.weightAll r
    rcases List.mem_cons.mp h with e | m
    · rw [e]
      omega
    · have z := weight_mem m
      omega
def toV : Value → V
  | .none => .non
  | .bool b => .bl b
  | .int i _ => .int i
  | .str x _ => .str x
  | .bytes b _ => .byt b
  | .ref a => .ref a
  | _ => .non
def OkU (A : List Addr) : Value → Prop
  | .none => True
  | .bool _ => True
  | .int _ _ => True
  | .str _ _ => True
  | .bytes _ _ => True
  | .ref a => a ∈ A
  | _ => False
theorem OkU.mono {A B : List Addr} (h : ∀ a ∈ A, a ∈ B) : ∀ {u : Value}, OkU A u → OkU B u := fun {u} x => by
  cases u with
  | ref a => exact h a x
  | none => trivial
  | bool b => trivial
  | int i t => trivial
  | str s t => trivial
  | bytes b t => trivial
  | _ => exact False.elim x
theorem relV_toV {A : List Addr} {u : Value} (x : OkU A u) : RelV (toV u) u := by
  cases u with
  | ref a => rfl
  | none => rfl
  | bool b => rfl
  | int i t => exact ⟨t, rfl⟩
  | str s t => exact ⟨t, rfl⟩
  | bytes b t => exact ⟨t, rfl⟩
  | _ => exact False.elim x
theorem vals_toV {A : List Addr} : ∀ {vs : List Value}, (∀ u ∈ vs, OkU A u) → Vals (vs.map toV) vs
  | [], _ => .nil
  | u :: r, h => .cons (relV_toV (h u (List.mem_cons_self ..))) (vals_toV fun x hx => h x (List.mem_cons_of_mem _ hx))
def ArgOb (h : Heap) (A : List Addr) (a : Addr) : Prop := ∃ vs : List Value, vs.length ≤ sizeLine ∧ (∀ u ∈ vs, OkU A u) ∧
  (h.get? a = some { cls := .type "list", data := .seq vs.toArray } ∨ h.get? a = some { cls := .type "tuple", data := .seq vs.toArray })
theorem ArgOb.mono {h : Heap} {A B : List Addr} {a : Addr} (k : ∀ a ∈ A, a ∈ B) (x : ArgOb h A a) : ArgOb h B a := by
  obtain ⟨vs, h1, h2, h3⟩ := x
  exact ⟨vs, h1, fun u hu => (h2 u hu).mono k, h3⟩
theorem wellAll_len {P : Params} {h : Heap} : ∀ {vs : List Value} {ds : List WData}, WellAll P h vs ds → vs.length = ds.length
  | _, _, .nil => rfl
  | _, _, .cons _ b => by
    show _ + 1 = _ + 1
    rw [wellAll_len b]
theorem well_list {P : Params} {h : Heap} {v : Value} {ds : List WData} (x : Well P h v (.list ds)) : ∃ (a : Addr) (vs : List Value), v = .ref a ∧ h.get? a = some { cls := .type "list", data := .seq vs.toArray } ∧ WellAll P h vs ds := by
  cases x with
  | list ho hall => exact ⟨_, _, rfl, ho, hall⟩
theorem well_tuple {P : Params} {h : Heap} {v : Value} {ds : List WData} (x : Well P h v (.tuple ds)) : ∃ (a : Addr) (vs : List Value), v = .ref a ∧ h.get? a = some { cls := .type "tuple", data := .seq vs.toArray } ∧ WellAll P h vs ds := by
  cases x with
  | tuple ho hall => exact ⟨_, _, rfl, ho, hall⟩
theorem well_cons {P : Params} {h : Heap} {us : List Value} {d : WData} {ds : List WData} (x : WellAll P h us (d :: ds)) : ∃ (v : Value) (vs : List Value), us = v :: vs ∧ Well P h v d ∧ WellAll P h vs ds := by
  cases x with
  | cons a b => exact ⟨_, _, rfl, a, b⟩
theorem line_of {n : Nat} (h : n ≤ 1048576) : n ≤ sizeLine := Nat.le_trans h (by decide)
section
variable {P : Params} {h : Heap}
mutual
theorem area_one : ∀ (d : WData) (v : Value), Well P h v d → plW d = true → d.weight ≤ 1048576 → ∃ A : List Addr, OkU A v ∧ ∀ a ∈ A, ArgOb h A a
  | .none, _, x, _, _ => by
    cases x
    exact ⟨[], trivial, fun a m => absurd m (by simp)⟩
  | .bool b, _, x, _, _ => by
    cases x
    exact ⟨[], trivial, fun a m => absurd m (by simp)⟩
  | .int i, _, x, _, _ => by
    cases x
    exact ⟨[], trivial, fun a m => absurd m (by simp)⟩
  | .str s, _, x, _, _ => by
    cases x
    exact ⟨[], trivial, fun a m => absurd m (by simp)⟩
  | .bytes b, _, x, _, _ => by
    cases x
    exact ⟨[], trivial, fun a m => absurd m (by simp)⟩
  | .list ds, _, x, p, z => by
    obtain ⟨a, vs, rfl, ho, hall⟩ := well_list x
    have z2 : WData.weightAll ds ≤ 1048576 := z
    obtain ⟨A, h1, h2⟩ := area_all ds _ hall p fun d hd => Nat.le_trans (weight_mem hd) z2
    have k : ∀ b ∈ A, b ∈ a :: A := fun b hb => List.mem_cons_of_mem _ hb
    refine ⟨a :: A, List.mem_cons_self .., fun b hb => ?_⟩
    rcases List.mem_cons.mp hb with e | m
    · rw [e]
      exact ⟨vs, line_of (by rw [wellAll_len hall]; exact Nat.le_trans (PySem.W.length_le_weightAllW ds) z2), fun u hu => (h1 u hu).mono k, .inl ho⟩
    · exact (h2 b m).mono k
  | .tuple ds, _, x, p, z => by
    obtain ⟨a, vs, rfl, ho, hall⟩ := well_tuple x
    have z2 : WData.weightAll ds ≤ 1048576 := z
    obtain ⟨A, h1, h2⟩ := area_all ds _ hall p fun d hd => Nat.le_trans (weight_mem hd) z2
    have k : ∀ b ∈ A, b ∈ a :: A := fun b hb => List.mem_cons_of_mem _ hb
    refine ⟨a :: A, List.mem_cons_self .., fun b hb => ?_⟩
    rcases List.mem_cons.mp hb with e | m
    · rw [e]
      exact ⟨vs, line_of (by rw [wellAll_len hall]; exact Nat.le_trans (PySem.W.length_le_weightAllW ds) z2), fun u hu => (h1 u hu).mono k, .inr ho⟩
    · exact (h2 b m).mono k
  | .float _, _, _, p, _ => Bool.noConfusion (show false = true from p)
  | .dict _, _, _, p, _ => Bool.noConfusion (show false = true from p)
  | .bytearray _, _, _, p, _ => Bool.noConfusion (show false = true from p)
  | .set _, _, _, p, _ => Bool.noConfusion (show false = true from p)
  | .frozenset _, _, _, p, _ => Bool.noConfusion (show false = true from p)
  | .obj _ _, _, _, p, _ => Bool.noConfusion (show false = true from p)
theorem area_all : ∀ (ds : List WData) (vs : List Value), WellAll P h vs ds → plWs ds = true → (∀ d ∈ ds, d.weight ≤ 1048576) → ∃ A : List Addr, (∀ u ∈ vs, OkU A u) ∧ ∀ a ∈ A, ArgOb h A a
  | [], _, x, _, _ => by
    cases x
    exact ⟨[], fun u m => absurd m (by simp), fun a m => absurd m (by simp)⟩
  | d :: ds, _, x, p, z => by
    obtain ⟨v, vs, rfl, x1, x2⟩ := well_cons x
    have q : plW d = true ∧ plWs ds = true := Bool.and_eq_true_iff.mp p
    obtain ⟨A, a1, a2⟩ := area_one d v x1 q.1 (z d (List.mem_cons_self ..))
    obtain ⟨B, b1, b2⟩ := area_all ds vs x2 q.2 fun e he => z e (List.mem_cons_of_mem _ he)
    have kA : ∀ b ∈ A, b ∈ A ++ B := fun b hb => List.mem_append.mpr (.inl hb)
    have kB : ∀ b ∈ B, b ∈ A ++ B := fun b hb => List.mem_append.mpr (.inr hb)
    refine ⟨A ++ B, fun u hu => ?_, fun b hb => ?_⟩
    · rcases List.mem_cons.mp hu with e | m
      · rw [e]
        exact a1.mono kA
      · exact (b1 u m).mono kB
    · rcases List.mem_append.mp hb with m | m
      · exact (a2 b m).mono kA
      · exact (b2 b m).mono kB
end
end
def hoOf (o : Obj) : Option HO := match o.data with
  | .seq vs _ => if (o.cls == Value.type "list") = true then some (.frz o (.lst (vs.toList.map toV))) else some (.frz o (.tup (vs.toList.map toV)))
  | _ => none
def argH (K : PySem.W.Frag) (h : Heap) (A : List Addr) : Hp := fun b => if b ∈ A then (if (K.lookup b).isNone = true then (h.get? b).bind hoOf else none) else none
def OnlyF (H : Hp) : Prop := ∀ b, H b = none ∨ ∃ o u, H b = some (.frz o u)
theorem hoOf_lst (vs : List Value) : hoOf { cls := .type "list", data := .seq vs.toArray } = some (.frz { cls := .type "list", data := .seq vs.toArray } (.lst (vs.map toV))) := by
  show (if (Value.type "list" == Value.type "list") = true then some (HO.frz { cls := .type "list", data := .seq vs.toArray } (.lst (vs.toArray.toList.map toV))) else some (HO.frz { cls := .type "list", data := .seq vs.toArray } (.tup (vs.toArray.toList.map toV)))) = _
  rw [if_pos (beq_self_eq_true _)]
theorem hoOf_tup (vs : List Value) : hoOf { cls := .type "tuple", data := .seq vs.toArray } = some (.frz { cls := .type "tuple", data := .seq vs.toArray } (.tup (vs.map toV))) := by
  show (if (Value.type "tuple" == Value.type "list") = true then some (HO.frz { cls := .type "tuple", data := .seq vs.toArray } (.lst (vs.toArray.toList.map toV))) else some (HO.frz { cls := .type "tuple", data := .seq vs.toArray } (.tup (vs.toArray.toList.map toV)))) = _
  rw [if_neg (by decide)]
section
variable {P : Program} {w : World} {K : PySem.W.Frag} {h : Heap} {A : List Addr}
theorem argH_at {b : Addr} {o : Obj} (hb : b ∈ A) (hk : K.lookup b = none) (e : h.get? b = some o) : argH K h A b = hoOf o := by
  unfold argH
  rw [if_pos hb, hk, if_pos (show (none : Option Obj).isNone = true from rfl), e] <;> rfl
theorem of_argH {b : Addr} {u : HO} (q : argH K h A b = some u) : b ∈ A ∧ K.lookup b = none := by
  unfold argH at q
  by_cases hb : b ∈ A
  · rw [if_pos hb] at q
    cases hk : K.lookup b with
    | none => exact ⟨hb, rfl⟩
    | some o =>
      rw [hk, if_neg (by simp)] at q
      cases q
  · rw [if_neg hb] at q
    cases q
theorem argH_is (ar : ∀ a ∈ A, ArgOb h A a) {b : Addr} {u : HO} (q : argH K h A b = some u) : K.lookup b = none ∧ ∃ vs : List Value, vs.length ≤ sizeLine ∧ (∀ u ∈ vs, OkU A u) ∧
    ((h.get? b = some { cls := .type "list", data := .seq vs.toArray } ∧ u = .frz { cls := .type "list", data := .seq vs.toArray } (.lst (vs.map toV))) ∨
     (h.get? b = some { cls := .type "tuple", data := .seq vs.toArray } ∧ u = .frz { cls := .type "tuple", data := .seq vs.toArray } (.tup (vs.map toV)))) := by
  obtain ⟨hb, hk⟩ := of_argH q
  obtain ⟨vs, h1, h2, h3⟩ := ar b hb
  refine ⟨hk, vs, h1, h2, ?_⟩
  rcases h3 with e | e
  · rw [argH_at hb hk e, hoOf_lst] at q
    exact .inl ⟨e, (Option.some.inj q).symm⟩
  · rw [argH_at hb hk e, hoOf_tup] at q
    exact .inr ⟨e, (Option.some.inj q).symm⟩
theorem argH_only (ar : ∀ a ∈ A, ArgOb h A a) : OnlyF (argH K h A) := fun b => by
  cases q : argH K h A b with
  | none => exact .inl rfl
  | some u =>
    obtain ⟨_, vs, _, _, ⟨_, e⟩ | ⟨_, e⟩⟩ := argH_is ar q
    · exact .inr ⟨_, _, by rw [e]⟩
    · exact .inr ⟨_, _, by rw [e]⟩
theorem argH_ok (ar : ∀ a ∈ A, ArgOb h A a) : HOk P w (argH K h A) h := fun b u q => by
  obtain ⟨_, vs, h1, h2, ⟨e, rfl⟩ | ⟨e, rfl⟩⟩ := argH_is ar q
  · exact ⟨e, by rw [List.length_map]; exact h1, vs, _, vals_toV h2, e⟩
  · exact ⟨e, by rw [List.length_map]; exact h1, vs, vals_toV h2, _, e, rfl, _, rfl⟩
theorem seq_inj {c c' : Value} {vs us : List Value} (e : (some { cls := c, data := .seq vs.toArray } : Option Obj) = some { cls := c', data := .seq us.toArray }) : c = c' ∧ vs = us := by
  have e1 := Option.some.inj e
  have e2 : c = c' := congrArg Obj.cls e1
  have e3 : Data.seq vs.toArray = Data.seq us.toArray := congrArg Obj.data e1
  injection e3 with e4
  refine ⟨e2, ?_⟩
  have e5 := congrArg Array.toList e4
  simpa using e5
theorem argL (KX : K.In h) (ar : ∀ a ∈ A, ArgOb h A a) {a : Addr} {vs : List Value} (ha : a ∈ A) (e : h.get? a = some { cls := .type "list", data := .seq vs.toArray }) : (∀ u ∈ vs, OkU A u) ∧ SqL K (argH K h A) a (vs.map toV) := by
  obtain ⟨us, h1, h2, h3⟩ := ar a ha
  have hu : us = vs := by
    rcases h3 with q | q
    · rw [e] at q
      exact (seq_inj q).2.symm
    · rw [e] at q
      exact absurd (Value.type.inj (seq_inj q).1) (by decide)
  subst hu
  refine ⟨h2, ?_⟩
  cases hk : K.lookup a with
  | none => exact .inl (.inr ⟨_, by rw [argH_at ha hk e, hoOf_lst]⟩)
  | some o =>
    have e2 := KX a o hk
    rw [e] at e2
    obtain rfl := Option.some.inj e2
    exact .inr ⟨_, us.toArray, _, hk, rfl, rfl, rfl, by rw [List.size_toArray]; exact h1, by simpa using vals_toV h2⟩
theorem argT (KX : K.In h) (ar : ∀ a ∈ A, ArgOb h A a) {a : Addr} {vs : List Value} (ha : a ∈ A) (e : h.get? a = some { cls := .type "tuple", data := .seq vs.toArray }) : (∀ u ∈ vs, OkU A u) ∧ SqT K (argH K h A) a (vs.map toV) := by
  obtain ⟨us, h1, h2, h3⟩ := ar a ha
  have hu : us = vs := by
    rcases h3 with q | q
    · rw [e] at q
      exact absurd (Value.type.inj (seq_inj q).1) (by decide)
    · rw [e] at q
      exact (seq_inj q).2.symm
  subst hu
  refine ⟨h2, ?_⟩
  cases hk : K.lookup a with
  | none => exact .inl (.inr ⟨_, by rw [argH_at ha hk e, hoOf_tup]⟩)
  | some o =>
    have e2 := KX a o hk
    rw [e] at e2
    obtain rfl := Option.some.inj e2
    exact .inr ⟨_, us.toArray, _, hk, rfl, rfl, by rw [List.size_toArray]; exact h1, by simpa using vals_toV h2⟩
mutual
theorem dw_one {Pm : Params} (KX : K.In h) (ar : ∀ a ∈ A, ArgOb h A a) : ∀ (d : WData) (v : Value), Well Pm h v d → plW d = true → OkU A v → Dw K (argH K h A) (toV v) d
  | .none, _, x, _, _ => by
    cases x
    exact .non
  | .bool b, _, x, _, _ => by
    cases x
    exact .bl b
  | .int i, _, x, _, _ => by
    cases x
    exact .int i
  | .str s, _, x, _, _ => by
    cases x
    exact .str s
  | .bytes b, _, x, _, _ => by
    cases x
    have z := Dw.byt (K := K) (H := argH K h A) b.toArray
    exact z
  | .list ds, _, x, p, hu => by
    obtain ⟨a, vs, rfl, ho, hall⟩ := well_list x
    obtain ⟨h2, hs⟩ := argL KX ar hu ho
    exact .lst hs (dw_all KX ar ds _ hall p h2)
  | .tuple ds, _, x, p, hu => by
    obtain ⟨a, vs, rfl, ho, hall⟩ := well_tuple x
    obtain ⟨h2, hs⟩ := argT KX ar hu ho
    exact .tup hs (dw_all KX ar ds _ hall p h2)
  | .float _, _, _, p, _ => Bool.noConfusion (show false = true from p)
  | .dict _, _, _, p, _ => Bool.noConfusion (show false = true from p)
  | .bytearray _, _, _, p, _ => Bool.noConfusion (show false = true from p)
  | .set _, _, _, p, _ => Bool.noConfusion (show false = true from p)
  | .frozenset _, _, _, p, _ => Bool.noConfusion (show false = true from p)
  | .obj _ _, _, _, p, _ => Bool.noConfusion (show false = true from p)
theorem dw_all {Pm : Params} (KX : K.In h) (ar : ∀ a ∈ A, ArgOb h A a) : ∀ (ds : List WData) (vs : List Value), WellAll Pm h vs ds → plWs ds = true → (∀ u ∈ vs, OkU A u) → DwAll K (argH K h A) (vs.map toV) ds
  | [], _, x, _, _ => by
    cases x
    exact .nil
  | d :: ds, _, x, p, hu => by
    obtain ⟨v, vs, rfl, x1, x2⟩ := well_cons x
    have q : plW d = true ∧ plWs ds = true := Bool.and_eq_true_iff.mp p
    exact .cons (dw_one KX ar d v x1 q.1 (hu _ (List.mem_cons_self ..))) (dw_all KX ar ds vs x2 q.2 fun u m => hu u (List.mem_cons_of_mem _ m))
end
end
theorem spec_call {P : Program} {w : World} {K : PySem.W.Frag} {mg mb : Str → Option Value} {CX : CXT} {k : Nat} {fa : Addr} {fd : FuncData} {ps : List Str} {sp : Sp} {s₁ : Shared} {vals : List Value} {ds : List WData} {R : PySem.W.WRecords} {cl : Str → Option Addr} {d0 : WData}
    (KX : K.In s₁.heap) (hns : s₁.heap.Ns mainGlobals mg) (hb : s₁.heap.Ns builtinsNs mb) (hbb : ∀ x : Str, x ≠ "__name__" → mb x = bootBuiltins x) (hlim : s₁.heap.NoLimit) (hg : s₁.gens = #[])
    (hwl : WellAll w.params s₁.heap vals ds) (hpl : plWs ds = true) (hwt : ∀ d ∈ ds, d.weight ≤ 1048576) (hr : Room k callerA)
    (F : ∀ base : Heap, K.In base → base.Ns mainGlobals mg → FnOk P w K mg base CX k fa fd ps sp) (hbind : ∀ (s : Shared) (us : List Value), us.length = ps.length → BindsTo s fd ⟨us, []⟩ (ps.zip us)) (hlen : ds.length = ps.length)
    (hsp : ∀ (H : Hp) (xs : List V), OnlyF H → DwAll K H xs ds → sp xs H (fun v H' => Dw K H' v d0) fun _ _ _ => False)
    (hCX : ∀ H e s', CX [] H s₁ (fun _ _ _ => False) e s' → False) :
    codeAny (model P w) callerA (.call (.ref fa) ⟨vals, []⟩) (fun r s' => ∃ u as, r = .ok (.ret u) ∧ ReadsW R cl s'.heap u d0 as ∧ OldK s₁.heap s'.heap ∧ s'.os = s₁.os ∧ AllBare s'.gens) s₁ := by
  obtain ⟨A, ho, ar⟩ := area_all ds vals hwl hpl hwt
  have hO : OnlyF (argH K s₁.heap A) := argH_only ar
  have hok : HOk P w (argH K s₁.heap A) s₁.heap := argH_ok ar
  have hS := dw_all KX ar ds vals hwl hpl ho
  have hV := vals_toV ho
  have hK : ∀ b u, argH K s₁.heap A b = some u → K.lookup b = none := fun b u q => (argH_is ar q).1
  have noA : ∀ {b : Addr} {o : Obj} {es : Array DictEntry} {ep : Nat}, s₁.heap.get? b = some o → o.data = .dict es ep → argH K s₁.heap A b = none := fun {b o es ep} e d => by
    cases q : argH K s₁.heap A b with
    | none => rfl
    | some u =>
      obtain ⟨_, vs, _, _, ⟨e2, _⟩ | ⟨e2, _⟩⟩ := argH_is ar q
      · rw [e2] at e
        cases e
        have d' : Data.seq vs.toArray _ = Data.dict es ep := d
        cases d'
      · rw [e2] at e
        cases e
        have d' : Data.seq vs.toArray _ = Data.dict es ep := d
        cases d'
  generalize argH K s₁.heap A = H at hO hok hS hK noA
  have base_of : ∀ {b : Addr} {o : Obj}, s₁.heap.get? b = some o → H b = none → (hidT s₁.heap H).get? b = some o := fun e n => hidT_get e n
  have nsK : ∀ {b : Addr} {m : Str → Option Value}, s₁.heap.Ns b m → (hidT s₁.heap H).Ns b m := fun {b m} ⟨o, es, ep, e, d, r⟩ => ⟨o, es, ep, base_of e (noA e d), d, r⟩
  have nK : ∀ b o, K.lookup b = some o → H b = none := fun b o e => by
    cases q : H b with
    | none => rfl
    | some u =>
      rw [hK b u q] at e
      cases e
  have hKb : K.In (hidT s₁.heap H) := fun b o e => base_of (KX b o e) (nK b o e)
  have hM : Mod K mg (hidT s₁.heap H) := ⟨hKb, nsK hns, ⟨mb, nsK hb, hbb⟩, let ⟨mc, h1, h2⟩ := hlim; ⟨mc, nsK h1, h2⟩⟩
  have e0 : Env0 P w K mg (hidT s₁.heap H) callerA [] s₁ H := ⟨rfl, hM, fun b o e => of_hidT e, Nat.le_of_eq (hidT_size _ _), trivial, fun b hb => absurd (show b ∈ ([] : List Addr) from hb) (by simp), hok, .of_eq hg⟩
  have hl : vals.length = ps.length := by rw [wellAll_len hwl]; exact hlen
  refine codeAny_mono ((F _ hKb (nsK hns)).run callerA [] s₁ H ⟨vals, []⟩ vals (vals.map toV) _ _ hr e0 (hbind s₁ vals hl) hV (hsp H _ hO hS)) fun r s' x => ?_
  cases r with
  | error e => exact (hCX H e s' x).elim
  | ok fl =>
    cases fl with
    | next => exact False.elim x
    | brk => exact False.elim x
    | cont => exact False.elim x
    | ret u =>
      obtain ⟨v, H', os, bare, un, hok', r', q⟩ := x
      have kept : ∀ b o, s₁.heap.get? b = some o → s'.heap.get? b = some o := fun b o e => by
        cases q2 : H b with
        | none => exact un.keep b o e q2 (by intro z; exact absurd (show b ∈ ([] : List Addr) from z) (by simp)) (by simp)
        | some u2 =>
          rcases hO b with z | ⟨ob, u3, z⟩
          · rw [q2] at z
            cases z
          · have z2 := un.frzs b ob _ z
            obtain ⟨e1, _⟩ := hok b _ z
            obtain ⟨e2, _⟩ := hok' b _ z2
            rw [e] at e1
            cases e1
            exact e2
      have KX' : K.In s'.heap := fun b o e => kept b o (KX b o e)
      obtain ⟨as, hrd⟩ := Dw.reads (R := R) (cl := cl) hok' KX' d0 v u q r'
      exact ⟨u, as, rfl, hrd, OldK.of_keep kept, os, bare⟩
theorem layable_weight {ds : List WData} (h : WData.layableAll ds = true) : ∀ d ∈ ds, d.weight ≤ 1048576 := fun d hd =>
  (PySem.W.layableW_iff.mp (List.all_eq_true.mp h d hd)).2.2
theorem encAll_len : ∀ (cs : List Codec) (a : Codec.denoteAll cs), (Codec.encAll cs a).length = cs.length
  | [], _ => rfl
  | c :: cs, a => by
    show (Codec.encAll cs a.2).length + 1 = cs.length + 1
    rw [encAll_len cs a.2]
theorem walk_spec {r : OpenSpec} {k : Nat} {q : Program} {loose : List Str} {XP : (Str → Option Value) → Heap → Prop} {YP : World → Heap → Prop} {d : DefRec} {K : Params → PySem.W.Frag} {CX : World → CXT} {ps : List Str} {sp : World → Sp}
    (hwell : r.wellSaid = true) (hdf : d.params.defaults = []) (hlen : r.args.length = ps.length) (hr : Room k callerA)
    (hY : ∀ (w : World) (h : Heap), YP w h → (K w.params).In h)
    (F : ∀ (w : World) (mg : Str → Option Value) (fa : Addr) (h : Heap), YP w h → (K w.params).In h → h.Ns mainGlobals mg → mg d.name = some (.ref fa) →
      ∃ fd : FuncData, (∀ (s : Shared) (us : List Value), us.length = ps.length → BindsTo s fd ⟨us, []⟩ (ps.zip us)) ∧
        ∀ base : Heap, (K w.params).In base → base.Ns mainGlobals mg → FnOk r.prog w (K w.params) mg base (CX w) k fa fd ps (sp w))
    (hsp : ∀ (w : World) (H : Hp) (xs : List V) (a : Codec.denoteAll r.args), OnlyF H → Codec.withinAll r.args a = true → Codec.app r.args r.asked a = true → DwAll (K w.params) H xs (Codec.encAll r.args a) →
      sp w xs H (fun v H' => Dw (K w.params) H' v (r.ret.enc (Codec.app r.args r.f a))) fun _ _ _ => False)
    (hCX : ∀ (w : World) (H : Hp) (s : Shared) (e : Value) (s' : Shared), CX w [] H s (fun _ _ _ => False) e s' → False) :
    PySem.W.WalkOS q loose XP YP r d [] (fun f vs => PySem.call f vs) := by
  intro w s_0 s₁ mg mb G Y fa o pm cd doc dV kV ho hd hcd hD hmg hg args vals as hpre hlay hrd hwl hlo
  obtain ⟨a, e1, e2⟩ := PySem.W.os_pre_some hpre
  obtain ⟨e3, hwi⟩ := Codec.encAll_of_decAll r.args args a e1
  subst e3
  have KX := hY w _ Y
  obtain ⟨fd, hb, hF⟩ := F w mg fa _ Y KX G.T.g hmg
  refine PySem.W.enter_call (codeAny_mono (spec_call (R := []) (cl := classAt s_0.heap) (d0 := r.ret.enc (Codec.app r.args r.f a)) KX G.T.g G.T.b G.T.builtins G.T.nolimit hg hwl (pl_encAll _ _) (layable_weight hlay) hr hF hb (by rw [encAll_len]; exact hlen)
    (fun H xs hO hS => hsp w H xs a hO hwi e2 hS) fun H e s' => hCX w H s₁ e s') fun r' s' hq => ?_)
  obtain ⟨u, as', rfl, h1, h2, h3, h4⟩ := hq
  exact ⟨.inl ⟨u, _, as', rfl, fun _ => rfl, h1, (OpenSpec.post_iff hwell hwi _ _).mpr rfl, fun z => Bool.noConfusion (show false = true from z)⟩, h2, h3, h4⟩
theorem walk_specK {r : OpenSpec} {k : Nat} {q : Program} {loose : List Str} {XP : (Str → Option Value) → Heap → Prop} {YP : World → Heap → Prop} {d : DefRec} {K : Params → PySem.W.Frag} {CX : CXT} {ps : List Str} {sp : PySem.W.Frag → Sp}
    (hwell : r.wellSaid = true) (hdf : d.params.defaults = []) (hlen : r.args.length = ps.length) (hr : Room k callerA)
    (hY : ∀ (w : World) (h : Heap), YP w h → (K w.params).In h)
    (F : ∀ (w : World) (mg : Str → Option Value) (fa : Addr) (h : Heap), YP w h → (K w.params).In h → h.Ns mainGlobals mg → mg d.name = some (.ref fa) →
      ∃ fd : FuncData, (∀ (s : Shared) (us : List Value), us.length = ps.length → BindsTo s fd ⟨us, []⟩ (ps.zip us)) ∧
        ∀ base : Heap, (K w.params).In base → base.Ns mainGlobals mg → FnOk r.prog w (K w.params) mg base CX k fa fd ps (sp (K w.params)))
    (hsp : ∀ (K : PySem.W.Frag) (H : Hp) (xs : List V) (a : Codec.denoteAll r.args), OnlyF H → Codec.withinAll r.args a = true → Codec.app r.args r.asked a = true → DwAll K H xs (Codec.encAll r.args a) →
      sp K xs H (fun v H' => Dw K H' v (r.ret.enc (Codec.app r.args r.f a))) fun _ _ _ => False)
    (hCX : ∀ (H : Hp) (s : Shared) (e : Value) (s' : Shared), CX [] H s (fun _ _ _ => False) e s' → False) :
    PySem.W.WalkOS q loose XP YP r d [] (fun f vs => PySem.call f vs) :=
  walk_spec (K := K) (CX := fun _ => CX) (sp := fun w => sp (K w.params)) hwell hdf hlen hr hY F (fun w H xs a h1 h2 h3 h4 => hsp (K w.params) H xs a h1 h2 h3 h4) fun _ H s e s' => hCX H s e s'
end L2
end
end
section
set_option linter.all false
namespace Mi
open Vaesca
def endRun (mk : Nat → Text → Token) (m : Reader) (behind : Nat) : Reader := { m with tokens := m.tokens ++ [mk m.from_ m.run], from_ := behind, run := [] }
def addOpen (m : Reader) (e : Bool) : Reader := { m with tokens := m.tokens ++ [.opened m.from_ m.tag m.attrs e], from_ := m.count + 1, attrs := [] }
def endTag (m : Reader) : Reader := { m with tag := [], mode := .text }
def endOpen (m : Reader) : Reader := if isRaw m.tag = true then { (addOpen m false) with mode := .raw } else endTag (addOpen m false)
def endEnded (m : Reader) : Reader := endTag (addOpen m true)
def endText (m : Reader) : Reader := if m.run = [] then m else endRun .text m m.count
def inText (m : Reader) (c : Nat) : Reader :=
  if c = 60 then { (endText m) with mode := .lt } else if c = 38 then m.go (.ref .text) else m.add [c]
def inRef (h : Home) (m : Reader) (c : Nat) : Reader :=
  if c = 59 then match byteOf m.body with
    | some b => { m with run := m.run ++ [b], body := [], mode := h.mode }
    | none => m.fail 4
  else if (isSmall c || isGreat c || isDigit c || c == 35) = true ∧ m.body.length < 4 then { m with body := m.body ++ [c] }
  else m.fail 4
def inLt (m : Reader) (c : Nat) : Reader :=
  if isSmall c = true then { m with tag := [c], mode := .openName }
  else if c = 47 then m.go .ltSlash else if c = 33 then m.go .bang else m.fail 1
def behindPart (m : Reader) (c : Nat) : Reader :=
  if isBlank c = true then m.go .gap else if c = 47 then m.go .slash else if c = 62 then endOpen m else m.fail 1
def inOpenName (m : Reader) (c : Nat) : Reader :=
  if isNameSign c = true then (if m.tag.length = 32 then m.fail 2 else { m with tag := m.tag ++ [c] }) else behindPart m c
def inLtSlash (m : Reader) (c : Nat) : Reader :=
  if isSmall c = true then { m with tag := [c], mode := .closeName } else m.fail 1
def endClose (m : Reader) : Reader := endTag { m with tokens := m.tokens ++ [.closed m.from_ m.tag], from_ := m.count + 1 }
def inCloseName (m : Reader) (c : Nat) : Reader :=
  if isNameSign c = true then (if m.tag.length = 32 then m.fail 2 else { m with tag := m.tag ++ [c] })
  else if c = 62 then endClose m else m.fail 1
def inGap (m : Reader) (c : Nat) : Reader :=
  if isSmall c = true then { m with attr := [c], mode := .attrName } else behindPart m c
def inAttrName (m : Reader) (c : Nat) : Reader :=
  if isNameSign c = true then (if m.attr.length = 32 then m.fail 2 else { m with attr := m.attr ++ [c] })
  else if isBlank c = false ∧ c ≠ 47 ∧ c ≠ 62 ∧ c ≠ 61 then m.fail 1
  else if isTwice m = true then m.fail 3
  else if c = 61 then m.go .eq
  else behindPart (endAttr m) c
def inEq (m : Reader) (c : Nat) : Reader :=
  if c = 34 then m.go .double else if c = 39 then m.go .single else if c = 38 then m.go (.ref .bare)
  else if isMark c = true then (endAttr (m.add [c])).go .behind
  else if isBare c = true then (m.add [c]).go .bare else m.fail 1
def inBetween (q : Nat) (h : Home) (m : Reader) (c : Nat) : Reader :=
  if c = q then (endAttr m).go .behind else if c = 38 then m.go (.ref h) else m.add [c]
def inBare (m : Reader) (c : Nat) : Reader :=
  if isBare c = true ∨ isMark c = true then m.add [c]
  else if c = 38 then m.go (.ref .bare)
  else if isBlank c = true ∨ c = 62 then behindPart (endAttr m) c
  else m.fail 1
def inSlash (m : Reader) (c : Nat) : Reader := if c = 62 then endEnded m else m.fail 1
def inBangs (m : Reader) (c : Nat) : Reader :=
  if c = 45 then (if m.mode = .bang then m.go .bangDash else m.go (.comment 0)) else m.fail 1
def inComment0 (m : Reader) (c : Nat) : Reader := if c = 45 then m.go (.comment 1) else m.add [c]
def inComment1 (m : Reader) (c : Nat) : Reader := if c = 45 then m.go (.comment 2) else (m.add [45, c]).go (.comment 0)
def inComment2 (m : Reader) (c : Nat) : Reader :=
  if c = 45 then m.add [45] else if c = 62 then (endRun .comment m (m.count + 1)).go .text else (m.add [45, 45, c]).go (.comment 0)
def inRaw (m : Reader) (c : Nat) : Reader := if c = 60 then m.go .rawLt else m.add [c]
def inRawLt (m : Reader) (c : Nat) : Reader :=
  if c = 47 then m.go .rawEnd else if c = 60 then m.add [60] else (m.add [60, c]).go .raw
def endRaw (m : Reader) : Reader :=
  endClose { (if m.run = [] then m else endRun .raw m (m.count - m.tag.length - 2)) with body := [] }
def inRawEnd (m : Reader) (c : Nat) : Reader :=
  if m.tag.drop m.body.length = [] ∧ c = 62 then endRaw m
  else if (m.tag.drop m.body.length).take 1 = [c] then { m with body := m.body ++ [c] }
  else m.fail 6
def stepBy (mo : Mode) (m : Reader) (c : Nat) : Reader := match mo with
  | .text => inText m c
  | .ref h => inRef h m c
  | .lt => inLt m c
  | .openName => inOpenName m c
  | .ltSlash => inLtSlash m c
  | .closeName => inCloseName m c
  | .gap => inGap m c
  | .attrName => inAttrName m c
  | .eq => inEq m c
  | .double => inBetween 34 .double m c
  | .single => inBetween 39 .single m c
  | .bare => inBare m c
  | .behind => behindPart m c
  | .slash => inSlash m c
  | .bang => inBangs m c
  | .bangDash => inBangs m c
  | .comment 0 => inComment0 m c
  | .comment 1 => inComment1 m c
  | .comment _ => inComment2 m c
  | .raw => inRaw m c
  | .rawLt => inRawLt m c
  | .rawEnd => inRawEnd m c
  | .ended => m
  | .fault => m
def step (m : Reader) (c : Nat) : Reader := stepBy m.mode m c
def sign (m : Reader) (c : Nat) : Reader :=
  if isMark c = true then match spotOf m with
    | none => m.fail 5
    | some s => step { m with marks := m.marks ++ [(c, s)] } c
  else step m c
def signs : Reader → Text → Reader
  | m, [] => m
  | m, c :: r => if (sign m c).mode = .fault then sign m c else signs { (sign m c) with count := (sign m c).count + 1 } r
def finish (m : Reader) : Reader := if m.mode = .text then (endText m).go .ended else m.fail 7
def MOk1 : Mode → Reader → Nat → Prop
  | .text, r, tp => r.body = [] ∧ (r.run = [] → tp = r.count) ∧ (r.run ≠ [] → tp = r.from_)
  | .ref .text, r, tp => tp = r.from_
  | .ref _, r, tp => tp = r.from_ ∧ isTwice r = false
  | .eq, r, tp => tp = r.from_ ∧ r.run = [] ∧ r.body = [] ∧ isTwice r = false
  | .double, r, tp => tp = r.from_ ∧ r.body = [] ∧ isTwice r = false
  | .single, r, tp => tp = r.from_ ∧ r.body = [] ∧ isTwice r = false
  | .bare, r, tp => tp = r.from_ ∧ r.body = [] ∧ isTwice r = false
  | .comment d, r, tp => tp = r.from_ ∧ d ≤ 2 ∧ r.body = []
  | .raw, r, tp => tp = r.from_ ∧ r.body = [] ∧ tp ≤ r.count ∧ (r.run = [] → tp = r.count)
  | .rawLt, r, tp => tp = r.from_ ∧ r.body = [] ∧ tp + 1 ≤ r.count ∧ (r.run = [] → tp + 1 = r.count)
  | .rawEnd, r, tp => tp = r.from_ ∧ r.body.length ≤ r.tag.length ∧ tp + r.body.length + 2 ≤ r.count ∧ (r.run = [] → tp + r.body.length + 2 = r.count)
  | .ended, _, _ => True
  | .fault, _, _ => True
  | _, r, tp => tp = r.from_ ∧ r.run = [] ∧ r.body = []
def MOk (r : Reader) (tp : Nat) : Prop := MOk1 r.mode r tp
structure Sim (m r : Reader) : Prop where
  same : m = { r with from_ := m.from_ }
  ok : MOk r m.from_
  tagL : r.tag.length ≤ 32
  attrL : r.attr.length ≤ 32
end Mi
end
section
set_option linter.all false
set_option maxHeartbeats 1000000
namespace Mi
open Vaesca
structure After (s' s : Reader) (n : Nat) : Prop where
  same : s' = { s with from_ := s'.from_ }
  cnt : s.count = n
  ok : s.mode = .fault ∨ (s.mode ≠ .ended ∧ MOk { s with count := n + 1 } s'.from_)
  tagL : s.tag.length ≤ 32
  attrL : s.attr.length ≤ 32
variable {r : Reader} {t c : Nat}
theorem beq_fault (mo : Mode) : (mo == .fault) = decide (mo = .fault) := by cases mo <;> rfl
theorem beq_text (mo : Mode) : (mo == .text) = decide (mo = .text) := by cases mo <;> rfl
theorem bq {c k : Nat} (e : c = k) : (c == k) = true := by simpa using e
theorem bn {c k : Nat} (e : ¬ c = k) : ¬ (c == k) = true := by simpa using e
theorem after_fail (k : Nat) (a : r.tag.length ≤ 32) (b : r.attr.length ≤ 32) : After (({ r with from_ := t } : Reader).fail k) (r.fail k) r.count :=
  ⟨rfl, rfl, .inl rfl, a, b⟩
theorem after_text (hm : r.mode = .text) (h : MOk r t) (a : r.tag.length ≤ 32) (b : r.attr.length ≤ 32) :
    After (inText { r with from_ := t } c) (Vaesca.inText r c) r.count := by
  obtain ⟨mode, count, tokens, tag, attrs, attr, body, run, from_, marks, wrong⟩ := r
  simp only at hm; subst hm
  simp only [MOk, MOk1] at h
  obtain ⟨hb, h1, h2⟩ := h
  subst hb
  by_cases e : c = 60
  · subst e
    cases run with
    | nil =>
      have e1 := h1 rfl
      subst e1
      refine ⟨?_, ?_, .inr ⟨?_, ?_⟩, a, b⟩ <;> simp [inText, Vaesca.inText, endText, Vaesca.endText, MOk, MOk1]
    | cons x xs =>
      have e1 := h2 (by simp)
      subst e1
      refine ⟨?_, ?_, .inr ⟨?_, ?_⟩, a, b⟩ <;> simp [inText, Vaesca.inText, endText, Vaesca.endText, endRun, MOk, MOk1]
  · by_cases e' : c = 38
    · subst e'
      cases run with
      | nil =>
        have e1 := h1 rfl
        subst e1
        refine ⟨?_, ?_, .inr ⟨?_, ?_⟩, a, b⟩ <;> simp [inText, Vaesca.inText, MOk, MOk1, Reader.go]
      | cons x xs =>
        have e1 := h2 (by simp)
        subst e1
        refine ⟨?_, ?_, .inr ⟨?_, ?_⟩, a, b⟩ <;> simp [inText, Vaesca.inText, MOk, MOk1, Reader.go]
    · cases run with
      | nil =>
        have e1 := h1 rfl
        subst e1
        refine ⟨?_, ?_, .inr ⟨?_, ?_⟩, ?_, ?_⟩ <;> simp [inText, Vaesca.inText, MOk, MOk1, Reader.add, e, e', a, b]
      | cons x xs =>
        have e1 := h2 (by simp)
        subst e1
        refine ⟨?_, ?_, .inr ⟨?_, ?_⟩, ?_, ?_⟩ <;> simp [inText, Vaesca.inText, MOk, MOk1, Reader.add, e, e', a, b]
theorem after_ref (g : Home) (hm : r.mode = .ref g) (h : MOk r t) (a : r.tag.length ≤ 32) (b : r.attr.length ≤ 32) :
    After (inRef g { r with from_ := t } c) (Vaesca.inRef g r c) r.count := by
  have h0 : t = r.from_ ∧ (g ≠ .text → isTwice r = false) := by
    unfold MOk at h
    rw [hm] at h
    cases g with
    | text => exact ⟨h, fun z => absurd rfl z⟩
    | double => exact ⟨h.1, fun _ => h.2⟩
    | single => exact ⟨h.1, fun _ => h.2⟩
    | bare => exact ⟨h.1, fun _ => h.2⟩
  obtain ⟨rfl, h2⟩ := h0
  unfold inRef Vaesca.inRef
  by_cases e : c = 59
  · rw [if_pos e, if_pos (by simpa using e)]
    show After (match byteOf r.body with | some v => _ | none => _) _ _
    cases q : byteOf r.body with
    | none => exact after_fail 4 a b
    | some v =>
      refine ⟨rfl, rfl, .inr ⟨?_, ?_⟩, a, b⟩
      · cases g <;> simp [Home.mode]
      · cases g with
        | text => exact ⟨rfl, fun z => absurd z (by simp), fun _ => rfl⟩
        | double => exact ⟨rfl, rfl, h2 (by simp)⟩
        | single => exact ⟨rfl, rfl, h2 (by simp)⟩
        | bare => exact ⟨rfl, rfl, h2 (by simp)⟩
  · rw [if_neg e, if_neg (show ¬ (c == 59) = true by simpa using e)]
    by_cases e2 : (isSmall c || isGreat c || isDigit c || c == 35) = true ∧ r.body.length < 4
    · have e3 : ((isSmall c || isGreat c || isDigit c || c == 35) && decide (r.body.length < BODY)) = true := by
        rw [e2.1]; simp [BODY, e2.2]
      rw [if_pos e2, if_pos e3]
      refine ⟨rfl, rfl, .inr ⟨?_, ?_⟩, a, b⟩
      · show r.mode ≠ _
        rw [hm]; simp
      · show MOk1 r.mode _ _
        rw [hm]
        cases g with
        | text => exact rfl
        | double => exact ⟨rfl, h2 (by simp)⟩
        | single => exact ⟨rfl, h2 (by simp)⟩
        | bare => exact ⟨rfl, h2 (by simp)⟩
    · have e3 : ¬ ((isSmall c || isGreat c || isDigit c || c == 35) && decide (r.body.length < BODY)) = true := by
        intro z
        rw [Bool.and_eq_true] at z
        exact e2 ⟨z.1, of_decide_eq_true z.2⟩
      rw [if_neg e2, if_neg e3]
      exact after_fail 4 a b
theorem mok (mo : Mode) (hm : r.mode = mo) (h : MOk r t) : MOk1 mo r t := by
  unfold MOk at h
  rw [hm] at h
  exact h
theorem after_go {mo : Mode} (a : r.tag.length ≤ 32) (b : r.attr.length ≤ 32) (ne : mo ≠ .ended) (h : MOk1 mo { r with mode := mo, count := r.count + 1 } t) :
    After (({ r with from_ := t } : Reader).go mo) (r.go mo) r.count := ⟨rfl, rfl, .inr ⟨ne, h⟩, a, b⟩
theorem after_lt (hm : r.mode = .lt) (h : MOk r t) (a : r.tag.length ≤ 32) (b : r.attr.length ≤ 32) :
    After (inLt { r with from_ := t } c) (Vaesca.inLt r c) r.count := by
  obtain ⟨rfl, h1, h2⟩ := mok .lt hm h
  unfold inLt Vaesca.inLt
  by_cases e : isSmall c = true
  · rw [if_pos e, if_pos e]
    exact ⟨rfl, rfl, .inr ⟨by simp, rfl, h1, h2⟩, by simp, b⟩
  · rw [if_neg e, if_neg e]
    by_cases e : c = 47
    · rw [if_pos e, if_pos (bq e)]
      exact after_go a b (by simp) ⟨rfl, h1, h2⟩
    · rw [if_neg e, if_neg (bn e)]
      by_cases e : c = 33
      · rw [if_pos e, if_pos (bq e)]
        exact after_go a b (by simp) ⟨rfl, h1, h2⟩
      · rw [if_neg e, if_neg (bn e)]
        exact after_fail 1 a b
theorem after_open (hr : r.run = []) (hb : r.body = []) (a : r.tag.length ≤ 32) (b : r.attr.length ≤ 32) :
    After (endOpen { r with from_ := r.from_ }) (Vaesca.endTag r) r.count := by
  unfold endOpen Vaesca.endTag
  by_cases e : isRaw r.tag = true
  · rw [if_pos e]
    show After _ (if isRaw r.tag = true then _ else _) _
    rw [if_pos e]
    exact ⟨rfl, rfl, .inr ⟨by simp, rfl, hb, Nat.le_refl _, fun _ => rfl⟩, a, b⟩
  · rw [if_neg e]
    show After _ (if isRaw r.tag = true then _ else _) _
    rw [if_neg e]
    refine ⟨rfl, rfl, .inr ⟨by simp [endTag], hb, fun _ => rfl, fun z => absurd hr z⟩, by simp, b⟩
theorem after_part (hr : r.run = []) (hb : r.body = []) (a : r.tag.length ≤ 32) (b : r.attr.length ≤ 32) :
    After (behindPart { r with from_ := r.from_ } c) (if isBlank c = true then r.go .gap else tagEnds r c) r.count := by
  unfold behindPart tagEnds
  by_cases e : isBlank c = true
  · rw [if_pos e, if_pos e]
    exact after_go a b (by simp) ⟨rfl, hr, hb⟩
  · rw [if_neg e, if_neg e]
    by_cases e : c = 47
    · rw [if_pos e, if_pos (bq e)]
      exact after_go a b (by simp) ⟨rfl, hr, hb⟩
    · rw [if_neg e, if_neg (bn e)]
      by_cases e : c = 62
      · rw [if_pos e, if_pos (bq e)]
        exact after_open hr hb a b
      · rw [if_neg e, if_neg (bn e)]
        exact after_fail 1 a b
theorem after_openName (hm : r.mode = .openName) (h : MOk r t) (a : r.tag.length ≤ 32) (b : r.attr.length ≤ 32) :
    After (inOpenName { r with from_ := t } c) (Vaesca.inOpenName r c) r.count := by
  obtain ⟨rfl, h1, h2⟩ := mok .openName hm h
  unfold inOpenName Vaesca.inOpenName
  by_cases e : isNameSign c = true
  · rw [if_pos e, if_pos e]
    show After (if r.tag.length = 32 then _ else _) _ _
    by_cases e : r.tag.length = 32
    · rw [if_pos e, if_neg (show ¬ r.tag.length < NAME by unfold NAME; omega)]
      exact after_fail 2 a b
    · rw [if_neg e, if_pos (show r.tag.length < NAME by unfold NAME; omega)]
      refine ⟨rfl, rfl, .inr ⟨?_, ?_⟩, by simp; omega, b⟩
      · show r.mode ≠ _
        rw [hm]; simp
      · show MOk1 r.mode _ _
        rw [hm]
        exact ⟨rfl, h1, h2⟩
  · rw [if_neg e, if_neg e]
    exact after_part h1 h2 a b
theorem after_ltSlash (hm : r.mode = .ltSlash) (h : MOk r t) (a : r.tag.length ≤ 32) (b : r.attr.length ≤ 32) :
    After (inLtSlash { r with from_ := t } c) (Vaesca.inLtSlash r c) r.count := by
  obtain ⟨rfl, h1, h2⟩ := mok .ltSlash hm h
  unfold inLtSlash Vaesca.inLtSlash
  by_cases e : isSmall c = true
  · rw [if_pos e]
    exact ⟨rfl, rfl, .inr ⟨by simp, rfl, h1, h2⟩, by simp, b⟩
  · rw [if_neg e]
    exact after_fail 1 a b
theorem after_closeName (hm : r.mode = .closeName) (h : MOk r t) (a : r.tag.length ≤ 32) (b : r.attr.length ≤ 32) :
    After (inCloseName { r with from_ := t } c) (Vaesca.inCloseName r c) r.count := by
  obtain ⟨rfl, h1, h2⟩ := mok .closeName hm h
  unfold inCloseName Vaesca.inCloseName
  by_cases e : isNameSign c = true
  · rw [if_pos e, if_pos e]
    show After (if r.tag.length = 32 then _ else _) _ _
    by_cases e : r.tag.length = 32
    · rw [if_pos e, if_neg (show ¬ r.tag.length < NAME by unfold NAME; omega)]
      exact after_fail 2 a b
    · rw [if_neg e, if_pos (show r.tag.length < NAME by unfold NAME; omega)]
      refine ⟨rfl, rfl, .inr ⟨?_, ?_⟩, by simp; omega, b⟩
      · show r.mode ≠ _
        rw [hm]; simp
      · show MOk1 r.mode _ _
        rw [hm]
        exact ⟨rfl, h1, h2⟩
  · rw [if_neg e, if_neg e]
    by_cases e : c = 62
    · rw [if_pos e, if_pos (bq e)]
      exact ⟨rfl, rfl, .inr ⟨by simp [Vaesca.endClose], h2, fun _ => rfl, fun z => absurd h1 z⟩, by simp [Vaesca.endClose], b⟩
    · rw [if_neg e, if_neg (bn e)]
      exact after_fail 1 a b
theorem blank_small (h : isBlank c = true) : isSmall c = false := by
  simp only [isBlank, Bool.or_eq_true, beq_iff_eq] at h
  rcases h with ((h | h) | h) | h <;> subst h <;> rfl
theorem after_gapAny (hr : r.run = []) (hb : r.body = []) (a : r.tag.length ≤ 32) (b : r.attr.length ≤ 32) :
    After (inGap { r with from_ := r.from_ } c) (Vaesca.inGap r c) r.count := by
  unfold inGap Vaesca.inGap
  by_cases e : isSmall c = true
  · have e2 : ¬ isBlank c = true := fun z => by rw [blank_small z] at e; cases e
    rw [if_pos e, if_neg e2, if_pos e]
    exact ⟨rfl, rfl, .inr ⟨by simp, rfl, hr, hb⟩, a, by simp⟩
  · rw [if_neg e, if_neg e]
    exact after_part hr hb a b
theorem after_gap (hm : r.mode = .gap) (h : MOk r t) (a : r.tag.length ≤ 32) (b : r.attr.length ≤ 32) :
    After (inGap { r with from_ := t } c) (Vaesca.inGap r c) r.count := by
  obtain ⟨rfl, h1, h2⟩ := mok .gap hm h
  exact after_gapAny h1 h2 a b
theorem after_behind (hm : r.mode = .behind) (h : MOk r t) (a : r.tag.length ≤ 32) (b : r.attr.length ≤ 32) :
    After (behindPart { r with from_ := t } c) (Vaesca.inBehind r c) r.count := by
  obtain ⟨rfl, h1, h2⟩ := mok .behind hm h
  exact after_part h1 h2 a b
theorem after_attrName (hm : r.mode = .attrName) (h : MOk r t) (a : r.tag.length ≤ 32) (b : r.attr.length ≤ 32) :
    After (inAttrName { r with from_ := t } c) (Vaesca.inAttrName r c) r.count := by
  obtain ⟨rfl, h1, h2⟩ := mok .attrName hm h
  unfold inAttrName Vaesca.inAttrName
  by_cases e : isNameSign c = true
  · rw [if_pos e, if_pos e]
    show After (if r.attr.length = 32 then _ else _) _ _
    by_cases e : r.attr.length = 32
    · rw [if_pos e, if_neg (show ¬ r.attr.length < NAME by unfold NAME; omega)]
      exact after_fail 2 a b
    · rw [if_neg e, if_pos (show r.attr.length < NAME by unfold NAME; omega)]
      refine ⟨rfl, rfl, .inr ⟨?_, ?_⟩, a, by simp; omega⟩
      · show r.mode ≠ _
        rw [hm]; simp
      · show MOk1 r.mode _ _
        rw [hm]
        exact ⟨rfl, h1, h2⟩
  · rw [if_neg e, if_neg e]
    have ns : ¬ isSmall c = true := fun z => e (by unfold isNameSign; rw [z]; rfl)
    by_cases e : isBlank c = false ∧ c ≠ 47 ∧ c ≠ 62 ∧ c ≠ 61
    · have e3 : (!(isBlank c || c == 47 || c == 62 || c == 61)) = true := by simp [e]
      rw [if_pos e, if_pos e3]
      exact after_fail 1 a b
    · have e3 : ¬ (!(isBlank c || c == 47 || c == 62 || c == 61)) = true := by
        intro z
        apply e
        simpa [and_assoc] using z
      rw [if_neg e, if_neg e3]
      show After (if isTwice r = true then _ else _) _ _
      by_cases e4 : isTwice r = true
      · rw [if_pos e4, if_pos e4]
        exact after_fail 3 a b
      · rw [if_neg e4, if_neg e4]
        by_cases e5 : c = 61
        · rw [if_pos e5, if_pos (bq e5)]
          exact after_go a b (by simp) ⟨rfl, h1, h2, show isTwice r = false by simpa using e4⟩
        · rw [if_neg e5, if_neg (bn e5)]
          have := after_part (r := endAttr r) (c := c) rfl h2 a (by simp [endAttr])
          unfold Vaesca.inGap
          have e6 : (if isBlank c = true then (endAttr r).go .gap else if isSmall c = true then { (endAttr r) with attr := [c], mode := .attrName } else tagEnds (endAttr r) c) = (if isBlank c = true then (endAttr r).go .gap else tagEnds (endAttr r) c) := by
            rw [if_neg ns]
          rw [e6]
          exact this
theorem after_eq (hm : r.mode = .eq) (h : MOk r t) (a : r.tag.length ≤ 32) (b : r.attr.length ≤ 32) (hc : isMark c = false) :
    After (inEq { r with from_ := t } c) (Vaesca.inEq r c) r.count := by
  obtain ⟨rfl, h1, h2, h3⟩ := mok .eq hm h
  unfold inEq Vaesca.inEq
  by_cases e : c = 34
  · rw [if_pos e, if_pos (bq e)]
    exact after_go a b (by simp) ⟨rfl, h2, h3⟩
  rw [if_neg e, if_neg (bn e)]
  by_cases e : c = 39
  · rw [if_pos e, if_pos (bq e)]
    exact after_go a b (by simp) ⟨rfl, h2, h3⟩
  rw [if_neg e, if_neg (bn e)]
  by_cases e : c = 38
  · rw [if_pos e, if_pos (bq e)]
    exact after_go a b (by simp) ⟨rfl, h3⟩
  rw [if_neg e, if_neg (bn e), if_neg (by rw [hc]; simp)]
  by_cases e : isBare c = true
  · rw [if_pos e, if_pos e]
    refine ⟨?_, rfl, .inr ⟨by simp, rfl, h2, h3⟩, a, b⟩
    simp [Reader.add, Reader.go, h1]
  · rw [if_neg e, if_neg e]
    exact after_fail 1 a b
theorem after_quotes (q : Nat) (g : Home) (hg : g = .double ∨ g = .single) (hm : r.mode = g.mode) (h : MOk r t) (a : r.tag.length ≤ 32) (b : r.attr.length ≤ 32) :
    After (inBetween q g { r with from_ := t } c) (Vaesca.inQuotes q g r c) r.count := by
  have h0 : t = r.from_ ∧ r.body = [] ∧ isTwice r = false := by
    rcases hg with rfl | rfl
    · exact mok .double hm h
    · exact mok .single hm h
  obtain ⟨rfl, h1, h2⟩ := h0
  unfold inBetween Vaesca.inQuotes
  by_cases e : c = q
  · rw [if_pos e, if_pos (bq e)]
    exact ⟨rfl, rfl, .inr ⟨by simp, rfl, rfl, h1⟩, a, by simp [endAttr]⟩
  · rw [if_neg e, if_neg (bn e)]
    by_cases e : c = 38
    · rw [if_pos e, if_pos (bq e)]
      refine after_go a b (by simp) ?_
      rcases hg with rfl | rfl <;> exact ⟨rfl, h2⟩
    · rw [if_neg e, if_neg (bn e)]
      refine ⟨rfl, rfl, .inr ⟨?_, ?_⟩, a, b⟩
      · show r.mode ≠ _
        rw [hm]; rcases hg with rfl | rfl <;> simp [Home.mode]
      · show MOk1 r.mode _ _
        rw [hm]
        rcases hg with rfl | rfl <;> exact ⟨rfl, h1, h2⟩
theorem after_bare (hm : r.mode = .bare) (h : MOk r t) (a : r.tag.length ≤ 32) (b : r.attr.length ≤ 32) (hc : isMark c = false) :
    After (inBare { r with from_ := t } c) (Vaesca.inBare r c) r.count := by
  obtain ⟨rfl, h1, h2⟩ := mok .bare hm h
  unfold inBare Vaesca.inBare
  by_cases e : isBare c = true
  · rw [if_pos (.inl e), if_pos e]
    refine ⟨rfl, rfl, .inr ⟨?_, ?_⟩, a, b⟩
    · show r.mode ≠ _
      rw [hm]; simp
    · show MOk1 r.mode _ _
      rw [hm]
      exact ⟨rfl, h1, h2⟩
  rw [if_neg (by rw [hc]; simpa using e), if_neg e]
  by_cases e : c = 38
  · rw [if_pos e, if_pos (bq e)]
    exact after_go a b (by simp) ⟨rfl, h2⟩
  rw [if_neg e, if_neg (bn e)]
  have P := after_part (r := endAttr r) (c := c) rfl h1 a (by simp [endAttr])
  by_cases e : isBlank c = true
  · rw [if_pos (.inl e), if_pos e]
    rw [if_pos e] at P
    exact P
  rw [if_neg e] at P ⊢
  by_cases e2 : c = 62
  · rw [if_pos (.inr e2), if_pos (bq e2)]
    unfold tagEnds at P
    rw [if_neg (by simp [e2]), if_pos (bq e2)] at P
    exact P
  · rw [if_neg (by simp [e, e2]), if_neg (bn e2)]
    exact after_fail 1 a b
theorem after_slash (hm : r.mode = .slash) (h : MOk r t) (a : r.tag.length ≤ 32) (b : r.attr.length ≤ 32) :
    After (inSlash { r with from_ := t } c) (Vaesca.inSlash r c) r.count := by
  obtain ⟨rfl, h1, h2⟩ := mok .slash hm h
  unfold inSlash Vaesca.inSlash
  by_cases e : c = 62
  · rw [if_pos e, if_pos (bq e)]
    exact ⟨rfl, rfl, .inr ⟨by simp [Vaesca.endEnded], h2, fun _ => rfl, fun z => absurd h1 z⟩, by simp [Vaesca.endEnded], b⟩
  · rw [if_neg e, if_neg (bn e)]
    exact after_fail 1 a b
theorem after_bang (hm : r.mode = .bang) (h : MOk r t) (a : r.tag.length ≤ 32) (b : r.attr.length ≤ 32) :
    After (inBangs { r with from_ := t } c) (Vaesca.inBang r c) r.count := by
  obtain ⟨rfl, h1, h2⟩ := mok .bang hm h
  unfold inBangs Vaesca.inBang
  by_cases e : c = 45
  · rw [if_pos e, if_pos (bq e)]
    show After (if r.mode = .bang then _ else _) _ _
    rw [if_pos hm]
    exact after_go a b (by simp) ⟨rfl, h1, h2⟩
  · rw [if_neg e, if_neg (bn e)]
    exact after_fail 1 a b
theorem after_bangDash (hm : r.mode = .bangDash) (h : MOk r t) (a : r.tag.length ≤ 32) (b : r.attr.length ≤ 32) :
    After (inBangs { r with from_ := t } c) (Vaesca.inBangDash r c) r.count := by
  obtain ⟨rfl, h1, h2⟩ := mok .bangDash hm h
  unfold inBangs Vaesca.inBangDash
  by_cases e : c = 45
  · rw [if_pos e, if_pos (bq e)]
    show After (if r.mode = .bang then _ else _) _ _
    rw [if_neg (by rw [hm]; simp)]
    exact after_go a b (by simp) ⟨rfl, by omega, h2⟩
  · rw [if_neg e, if_neg (bn e)]
    exact after_fail 1 a b
theorem after_comment0 (hm : r.mode = .comment 0) (h : MOk r t) (a : r.tag.length ≤ 32) (b : r.attr.length ≤ 32) :
    After (inComment0 { r with from_ := t } c) (Vaesca.inComment 0 r c) r.count := by
  obtain ⟨rfl, _, h2⟩ := mok (.comment 0) hm h
  unfold inComment0 Vaesca.inComment
  by_cases e : c = 45
  · rw [if_pos e, if_pos (bq e), if_pos (by omega)]
    exact after_go a b (by simp) ⟨rfl, by omega, h2⟩
  · rw [if_neg e, if_neg (bn e), if_neg (by simp)]
    refine ⟨?_, rfl, .inr ⟨by simp [Reader.go], rfl, by omega, h2⟩, a, b⟩
    simp [Reader.add, Reader.go, hm]
theorem after_comment1 (hm : r.mode = .comment 1) (h : MOk r t) (a : r.tag.length ≤ 32) (b : r.attr.length ≤ 32) :
    After (inComment1 { r with from_ := t } c) (Vaesca.inComment 1 r c) r.count := by
  obtain ⟨rfl, _, h2⟩ := mok (.comment 1) hm h
  unfold inComment1 Vaesca.inComment
  by_cases e : c = 45
  · rw [if_pos e, if_pos (bq e), if_pos (by omega)]
    exact after_go a b (by simp) ⟨rfl, by omega, h2⟩
  · rw [if_neg e, if_neg (bn e), if_neg (by simp)]
    exact ⟨rfl, rfl, .inr ⟨by simp [Reader.go], rfl, by omega, h2⟩, a, b⟩
theorem after_comment2 (hm : r.mode = .comment 2) (h : MOk r t) (a : r.tag.length ≤ 32) (b : r.attr.length ≤ 32) :
    After (inComment2 { r with from_ := t } c) (Vaesca.inComment 2 r c) r.count := by
  obtain ⟨rfl, _, h2⟩ := mok (.comment 2) hm h
  unfold inComment2 Vaesca.inComment
  by_cases e : c = 45
  · rw [if_pos e, if_pos (bq e), if_neg (by omega)]
    refine ⟨rfl, rfl, .inr ⟨?_, ?_⟩, a, b⟩
    · show r.mode ≠ _
      rw [hm]; simp
    · show MOk1 r.mode _ _
      rw [hm]
      exact ⟨rfl, by omega, h2⟩
  · rw [if_neg e, if_neg (bn e)]
    by_cases e : c = 62
    · rw [if_pos e, if_pos (by simp [e])]
      exact ⟨rfl, rfl, .inr ⟨by simp [Vaesca.endComment], h2, fun _ => rfl, fun z => absurd rfl z⟩, a, b⟩
    · rw [if_neg e, if_neg (by simp [e])]
      exact ⟨rfl, rfl, .inr ⟨by simp [Reader.go], rfl, by omega, h2⟩, a, b⟩
theorem after_raw (hm : r.mode = .raw) (h : MOk r t) (a : r.tag.length ≤ 32) (b : r.attr.length ≤ 32) :
    After (inRaw { r with from_ := t } c) (Vaesca.inRaw r c) r.count := by
  obtain ⟨rfl, h1, h2, h3⟩ := mok .raw hm h
  unfold inRaw Vaesca.inRaw
  by_cases e : c = 60
  · rw [if_pos e, if_pos (bq e)]
    refine after_go a b (by simp) ⟨rfl, h1, Nat.succ_le_succ h2, fun z => congrArg (· + 1) (h3 z)⟩
  · rw [if_neg e, if_neg (bn e)]
    refine ⟨rfl, rfl, .inr ⟨?_, ?_⟩, a, b⟩
    · show r.mode ≠ _
      rw [hm]; simp
    · show MOk1 r.mode _ _
      rw [hm]
      exact ⟨rfl, h1, Nat.le_succ_of_le h2, fun z => absurd z (by simp [Reader.add])⟩
theorem after_rawLt (hm : r.mode = .rawLt) (h : MOk r t) (a : r.tag.length ≤ 32) (b : r.attr.length ≤ 32) :
    After (inRawLt { r with from_ := t } c) (Vaesca.inRawLt r c) r.count := by
  obtain ⟨rfl, h1, h2, h3⟩ := mok .rawLt hm h
  unfold inRawLt Vaesca.inRawLt
  by_cases e : c = 47
  · rw [if_pos e, if_pos (bq e)]
    refine after_go a b (by simp) ⟨rfl, ?_, ?_, fun z => ?_⟩
    · show r.body.length ≤ _
      rw [h1]; simp
    · show r.from_ + r.body.length + 2 ≤ r.count + 1
      rw [h1]; simp; omega
    · have := h3 z
      show r.from_ + r.body.length + 2 = r.count + 1
      rw [h1]; simp; omega
  · rw [if_neg e, if_neg (bn e)]
    by_cases e : c = 60
    · rw [if_pos e, if_pos (bq e)]
      refine ⟨rfl, rfl, .inr ⟨?_, ?_⟩, a, b⟩
      · show r.mode ≠ _
        rw [hm]; simp
      · show MOk1 r.mode _ _
        rw [hm]
        exact ⟨rfl, h1, Nat.le_succ_of_le h2, fun z => absurd z (by simp [Reader.add])⟩
    · rw [if_neg e, if_neg (bn e)]
      exact ⟨rfl, rfl, .inr ⟨by simp [Reader.go], rfl, h1, Nat.le_succ_of_le (Nat.le_of_succ_le h2), fun z => absurd z (by simp [Reader.add, Reader.go])⟩, a, b⟩
theorem after_endRaw (h1 : r.tag.length + 2 ≤ r.count) (h2 : r.run = [] → r.from_ + r.tag.length + 2 = r.count) (b : r.attr.length ≤ 32) :
    After (endRaw { r with from_ := r.from_ }) (Vaesca.endRaw r) r.count := by
  have e0 : r.count - r.tag.length - 2 = r.count - (r.tag.length + 2) := by omega
  by_cases e : r.run = []
  · have e1 : r.from_ = r.count - (r.tag.length + 2) := by have := h2 e; omega
    refine ⟨?_, rfl, .inr ⟨by simp [Vaesca.endRaw], rfl, fun _ => ?_, fun z => absurd rfl z⟩, by simp [Vaesca.endRaw], b⟩
    · simp [endRaw, Vaesca.endRaw, endClose, endTag, e, e1]
    · simp [endRaw, Vaesca.endRaw, endClose, endTag, e]
  · refine ⟨?_, rfl, .inr ⟨by simp [Vaesca.endRaw], rfl, fun _ => ?_, fun z => absurd rfl z⟩, by simp [Vaesca.endRaw], b⟩
    · simp [endRaw, Vaesca.endRaw, endClose, endTag, endRun, e, e0]
    · simp [endRaw, Vaesca.endRaw, endClose, endTag, endRun, e]
theorem after_rawEnd (hm : r.mode = .rawEnd) (h : MOk r t) (a : r.tag.length ≤ 32) (b : r.attr.length ≤ 32) :
    After (inRawEnd { r with from_ := t } c) (Vaesca.inRawEnd r c) r.count := by
  obtain ⟨rfl, h1, h2, h3⟩ := mok .rawEnd hm h
  unfold inRawEnd Vaesca.inRawEnd
  by_cases e : r.body.length < r.tag.length
  · have nd : ¬ (r.tag.drop r.body.length = [] ∧ c = 62) := by
      intro z
      have := List.drop_eq_nil_iff.mp z.1
      omega
    rw [if_pos e]
    show After (if r.tag.drop r.body.length = [] ∧ c = 62 then _ else if (r.tag.drop r.body.length).take 1 = [c] then _ else _) _ _
    rw [if_neg nd]
    have q : (r.tag.drop r.body.length).take 1 = [c] ↔ r.tag[r.body.length]? = some c := by
      rw [List.drop_eq_getElem_cons e, List.getElem?_eq_getElem e, List.take_succ_cons, List.take_zero]
      simp
    by_cases e2 : r.tag[r.body.length]? = some c
    · rw [if_pos (q.mpr e2), if_pos (by simp [e2])]
      refine ⟨rfl, rfl, .inr ⟨?_, ?_⟩, a, b⟩
      · show r.mode ≠ _
        rw [hm]; simp
      · show MOk1 r.mode _ _
        rw [hm]
        refine ⟨rfl, ?_, ?_, fun z => ?_⟩
        · simp; omega
        · simp; omega
        · have := h3 z
          simp; omega
    · rw [if_neg (fun z => e2 (q.mp z)), if_neg (show ¬ (r.tag[r.body.length]? == some c) = true by simpa using e2)]
      exact after_fail 6 a b
  · have hl : r.body.length = r.tag.length := by omega
    have d0 : r.tag.drop r.body.length = [] := List.drop_eq_nil_iff.mpr (by omega)
    rw [if_neg e]
    show After (if r.tag.drop r.body.length = [] ∧ c = 62 then _ else if (r.tag.drop r.body.length).take 1 = [c] then _ else _) _ _
    by_cases e2 : c = 62
    · rw [if_pos ⟨d0, e2⟩, if_pos (bq e2)]
      exact after_endRaw (r := r) (by omega) (fun z => by have := h3 z; omega) b
    · rw [if_neg (show ¬ (_ ∧ c = 62) from fun z => e2 z.2), d0, if_neg (show ¬ (List.take 1 ([] : Text) = [c]) by simp), if_neg (bn e2)]
      exact after_fail 6 a b
theorem code_comment {d : Nat} (h : d ≤ 2) : d = 0 ∨ d = 1 ∨ d = 2 := by omega
theorem step_at {mo : Mode} (hm : r.mode = mo) : step { r with from_ := t } c = stepBy mo { r with from_ := t } c := congrArg (fun z => stepBy z { r with from_ := t } c) hm
theorem done_of (h : r.mode = .ended ∨ r.mode = .fault) : isDone r = true := by
  unfold isDone
  rcases h with h | h <;> rw [h] <;> rfl
theorem not_done (h : r.mode ≠ .ended) (h' : r.mode ≠ .fault) : isDone r = false := by
  unfold isDone
  cases e : r.mode <;> first | rfl | exact absurd e h | exact absurd e h'
theorem after_byte (h : MOk r t) (a : r.tag.length ≤ 32) (b : r.attr.length ≤ 32) (hd : isDone r = false) (hc : isMark c = false) :
    After (step { r with from_ := t } c) (byte r c) r.count := by
  obtain ⟨mo, hm⟩ : ∃ mo, r.mode = mo := ⟨_, rfl⟩
  cases mo with
  | text => rw [step_at hm, show byte r c = Vaesca.inText r c by unfold byte; rw [hm]]; exact after_text hm h a b
  | ref g => rw [step_at hm, show byte r c = Vaesca.inRef g r c by unfold byte; rw [hm]]; exact after_ref g hm h a b
  | lt => rw [step_at hm, show byte r c = Vaesca.inLt r c by unfold byte; rw [hm]]; exact after_lt hm h a b
  | openName => rw [step_at hm, show byte r c = Vaesca.inOpenName r c by unfold byte; rw [hm]]; exact after_openName hm h a b
  | ltSlash => rw [step_at hm, show byte r c = Vaesca.inLtSlash r c by unfold byte; rw [hm]]; exact after_ltSlash hm h a b
  | closeName => rw [step_at hm, show byte r c = Vaesca.inCloseName r c by unfold byte; rw [hm]]; exact after_closeName hm h a b
  | gap => rw [step_at hm, show byte r c = Vaesca.inGap r c by unfold byte; rw [hm]]; exact after_gap hm h a b
  | attrName => rw [step_at hm, show byte r c = Vaesca.inAttrName r c by unfold byte; rw [hm]]; exact after_attrName hm h a b
  | eq => rw [step_at hm, show byte r c = Vaesca.inEq r c by unfold byte; rw [hm]]; exact after_eq hm h a b hc
  | double => rw [step_at hm, show byte r c = Vaesca.inQuotes 34 .double r c by unfold byte; rw [hm]]; exact after_quotes 34 .double (.inl rfl) hm h a b
  | single => rw [step_at hm, show byte r c = Vaesca.inQuotes 39 .single r c by unfold byte; rw [hm]]; exact after_quotes 39 .single (.inr rfl) hm h a b
  | bare => rw [step_at hm, show byte r c = Vaesca.inBare r c by unfold byte; rw [hm]]; exact after_bare hm h a b hc
  | behind => rw [step_at hm, show byte r c = Vaesca.inBehind r c by unfold byte; rw [hm]]; exact after_behind hm h a b
  | slash => rw [step_at hm, show byte r c = Vaesca.inSlash r c by unfold byte; rw [hm]]; exact after_slash hm h a b
  | bang => rw [step_at hm, show byte r c = Vaesca.inBang r c by unfold byte; rw [hm]]; exact after_bang hm h a b
  | bangDash => rw [step_at hm, show byte r c = Vaesca.inBangDash r c by unfold byte; rw [hm]]; exact after_bangDash hm h a b
  | comment d =>
    have hd2 := (mok _ hm h).2.1
    rcases code_comment hd2 with rfl | rfl | rfl
    · rw [step_at hm, show byte r c = Vaesca.inComment 0 r c by unfold byte; rw [hm]]; exact after_comment0 hm h a b
    · rw [step_at hm, show byte r c = Vaesca.inComment 1 r c by unfold byte; rw [hm]]; exact after_comment1 hm h a b
    · rw [step_at hm, show byte r c = Vaesca.inComment 2 r c by unfold byte; rw [hm]]; exact after_comment2 hm h a b
  | raw => rw [step_at hm, show byte r c = Vaesca.inRaw r c by unfold byte; rw [hm]]; exact after_raw hm h a b
  | rawLt => rw [step_at hm, show byte r c = Vaesca.inRawLt r c by unfold byte; rw [hm]]; exact after_rawLt hm h a b
  | rawEnd => rw [step_at hm, show byte r c = Vaesca.inRawEnd r c by unfold byte; rw [hm]]; exact after_rawEnd hm h a b
  | ended => rw [done_of (.inl hm)] at hd; cases hd
  | fault => rw [done_of (.inr hm)] at hd; cases hd
theorem mark_ne (hc : isMark c = true) {k : Nat} (hk : k < 256) : ¬ c = k := by
  have : 256 ≤ c := by simpa [isMark] using hc
  omega
theorem after_mark (h : MOk r t) (a : r.tag.length ≤ 32) (b : r.attr.length ≤ 32) (hd : isDone r = false) (hc : isMark c = true) :
    After (sign { r with from_ := t } c) (mark r c) r.count := by
  unfold sign mark
  rw [if_pos hc]
  show After (match spotOf r with | none => _ | some s => _) _ _
  have add (hm : r.mode = .double ∨ r.mode = .single ∨ r.mode = .bare ∨ r.mode = .raw) (s : Nat) : After (({ r with from_ := t, marks := r.marks ++ [(c, s)] } : Reader).add [c]) (({ r with marks := r.marks ++ [(c, s)] } : Reader).add [c]) r.count := by
    refine ⟨rfl, rfl, .inr ⟨?_, ?_⟩, a, b⟩
    · show r.mode ≠ _
      rcases hm with hm | hm | hm | hm <;> rw [hm] <;> simp
    · show MOk1 r.mode _ _
      rcases hm with hm | hm | hm | hm <;> have h' := mok _ hm h <;> rw [hm]
      · exact ⟨h'.1, h'.2.1, h'.2.2⟩
      · exact ⟨h'.1, h'.2.1, h'.2.2⟩
      · exact ⟨h'.1, h'.2.1, h'.2.2⟩
      · exact ⟨h'.1, h'.2.1, Nat.le_succ_of_le h'.2.2.1, fun z => absurd z (by simp [Reader.add])⟩
  obtain ⟨mo, hm⟩ : ∃ mo, r.mode = mo := ⟨_, rfl⟩
  cases mo with
  | text =>
    rw [show spotOf r = some 0 by unfold spotOf; rw [hm]]
    show After (step { ({ r with marks := r.marks ++ [(c, 0)] } : Reader) with from_ := t } c) (Vaesca.inText { r with marks := r.marks ++ [(c, 0)] } c) _
    rw [step_at (r := { r with marks := r.marks ++ [(c, 0)] }) hm]
    exact after_text (r := { r with marks := r.marks ++ [(c, 0)] }) hm (show MOk1 r.mode _ _ by have h' := mok _ hm h; rw [hm]; exact h') a b
  | double =>
    rw [show spotOf r = some 1 by unfold spotOf; rw [hm]]
    show After (step { ({ r with marks := r.marks ++ [(c, 1)] } : Reader) with from_ := t } c) (({ r with marks := r.marks ++ [(c, 1)] } : Reader).add [c]) _
    rw [step_at (r := { r with marks := r.marks ++ [(c, 1)] }) hm]
    show After (inBetween 34 .double _ c) _ _
    unfold inBetween
    rw [if_neg (mark_ne hc (by omega)), if_neg (mark_ne hc (by omega))]
    exact add (.inl hm) 1
  | single =>
    rw [show spotOf r = some 2 by unfold spotOf; rw [hm]]
    show After (step { ({ r with marks := r.marks ++ [(c, 2)] } : Reader) with from_ := t } c) (({ r with marks := r.marks ++ [(c, 2)] } : Reader).add [c]) _
    rw [step_at (r := { r with marks := r.marks ++ [(c, 2)] }) hm]
    show After (inBetween 39 .single _ c) _ _
    unfold inBetween
    rw [if_neg (mark_ne hc (by omega)), if_neg (mark_ne hc (by omega))]
    exact add (.inr (.inl hm)) 2
  | bare =>
    rw [show spotOf r = some 3 by unfold spotOf; rw [hm]]
    show After (step { ({ r with marks := r.marks ++ [(c, 3)] } : Reader) with from_ := t } c) (({ r with marks := r.marks ++ [(c, 3)] } : Reader).add [c]) _
    rw [step_at (r := { r with marks := r.marks ++ [(c, 3)] }) hm]
    show After (inBare _ c) _ _
    unfold inBare
    rw [if_pos (.inr hc)]
    exact add (.inr (.inr (.inl hm))) 3
  | eq =>
    obtain ⟨rfl, h1, h2, h3⟩ := mok _ hm h
    rw [show spotOf r = some 4 by unfold spotOf; rw [hm]]
    show After (step { ({ r with marks := r.marks ++ [(c, 4)] } : Reader) with from_ := r.from_ } c) { (endAttr { r with marks := r.marks ++ [(c, 4)], run := [c] }) with mode := .behind } _
    rw [step_at (r := { r with marks := r.marks ++ [(c, 4)] }) hm]
    show After (inEq _ c) _ _
    unfold inEq
    rw [if_neg (mark_ne hc (by omega)), if_neg (mark_ne hc (by omega)), if_neg (mark_ne hc (by omega)), if_pos hc]
    refine ⟨?_, rfl, .inr ⟨by simp, rfl, rfl, h2⟩, a, by simp [endAttr]⟩
    simp [endAttr, Reader.add, Reader.go, h1]
  | raw =>
    by_cases e : r.tag = CALC
    · rw [show spotOf r = some 5 by unfold spotOf; rw [hm]; simp [e]]
      show After (step { ({ r with marks := r.marks ++ [(c, 5)] } : Reader) with from_ := t } c) (({ r with marks := r.marks ++ [(c, 5)] } : Reader).add [c]) _
      rw [step_at (r := { r with marks := r.marks ++ [(c, 5)] }) hm]
      show After (inRaw _ c) _ _
      unfold inRaw
      rw [if_neg (mark_ne hc (by omega))]
      exact add (.inr (.inr (.inr hm))) 5
    · rw [show spotOf r = none by unfold spotOf; rw [hm]; simp [e]]
      exact after_fail 5 a b
  | ref g => rw [show spotOf r = none by unfold spotOf; rw [hm]]; exact after_fail 5 a b
  | lt => rw [show spotOf r = none by unfold spotOf; rw [hm]]; exact after_fail 5 a b
  | openName => rw [show spotOf r = none by unfold spotOf; rw [hm]]; exact after_fail 5 a b
  | ltSlash => rw [show spotOf r = none by unfold spotOf; rw [hm]]; exact after_fail 5 a b
  | closeName => rw [show spotOf r = none by unfold spotOf; rw [hm]]; exact after_fail 5 a b
  | gap => rw [show spotOf r = none by unfold spotOf; rw [hm]]; exact after_fail 5 a b
  | attrName => rw [show spotOf r = none by unfold spotOf; rw [hm]]; exact after_fail 5 a b
  | behind => rw [show spotOf r = none by unfold spotOf; rw [hm]]; exact after_fail 5 a b
  | slash => rw [show spotOf r = none by unfold spotOf; rw [hm]]; exact after_fail 5 a b
  | bang => rw [show spotOf r = none by unfold spotOf; rw [hm]]; exact after_fail 5 a b
  | bangDash => rw [show spotOf r = none by unfold spotOf; rw [hm]]; exact after_fail 5 a b
  | comment d => rw [show spotOf r = none by unfold spotOf; rw [hm]]; exact after_fail 5 a b
  | rawLt => rw [show spotOf r = none by unfold spotOf; rw [hm]]; exact after_fail 5 a b
  | rawEnd => rw [show spotOf r = none by unfold spotOf; rw [hm]]; exact after_fail 5 a b
  | ended => rw [done_of (.inl hm)] at hd; cases hd
  | fault => rw [done_of (.inr hm)] at hd; cases hd
theorem after_sign (h : MOk r t) (a : r.tag.length ≤ 32) (b : r.attr.length ≤ 32) (hd : isDone r = false) :
    After (sign { r with from_ := t } c) (if isMark c = true then mark r c else byte r c) r.count := by
  by_cases hc : isMark c = true
  · rw [if_pos hc]
    exact after_mark h a b hd hc
  · rw [if_neg hc]
    have : sign { r with from_ := t } c = step { r with from_ := t } c := by unfold sign; rw [if_neg hc]
    rw [this]
    exact after_byte h a b hd (by simpa using hc)
theorem eat_eq (hd : isDone r = false) : eat r c = (if (if isMark c = true then mark r c else byte r c).mode == .fault then (if isMark c = true then mark r c else byte r c) else { (if isMark c = true then mark r c else byte r c) with count := r.count + 1 }) := by
  unfold eat
  rw [if_neg (by rw [hd]; simp)]
theorem run_done : ∀ (l : Text) (r : Reader), isDone r = true → run r l = r
  | [], r, _ => rfl
  | c :: l, r, h => by
    show run (eat r c) l = r
    have e : eat r c = r := by unfold eat; rw [if_pos h]
    rw [e]
    exact run_done l r h
theorem sim_signs : ∀ (l : Text) {m r : Reader}, Sim m r → isDone r = false → Sim (signs m l) (run r l) ∧ (run r l).mode ≠ .ended
  | [], m, r, h, hd => ⟨h, fun z => by
      have z' : r.mode = .ended := z
      rw [done_of (.inl z')] at hd; cases hd⟩
  | c :: l, m, r, h, hd => by
    obtain ⟨h1, h2, h3, h4⟩ := h
    have A := after_sign (c := c) h2 h3 h4 hd
    rw [← h1] at A
    obtain ⟨A1, A2, A3, A4, A5⟩ := A
    show Sim (signs m (c :: l)) (run (eat r c) l) ∧ (run (eat r c) l).mode ≠ .ended
    rw [eat_eq hd]
    revert A1 A2 A3 A4 A5
    generalize (if isMark c = true then mark r c else byte r c) = s
    intro A1 A2 A3 A4 A5
    unfold signs
    have em : (sign m c).mode = s.mode := by rw [A1]
    by_cases e : s.mode = .fault
    · rw [if_pos (em.trans e), if_pos (by rw [beq_fault]; exact decide_eq_true e)]
      have dn : isDone s = true := done_of (.inr e)
      rw [run_done l s dn]
      exact ⟨⟨A1, by unfold MOk; rw [e]; trivial, A4, A5⟩, by rw [e]; simp⟩
    · rw [if_neg (fun z => e (em.symm.trans z)), if_neg (by rw [beq_fault]; simpa using e)]
      rcases A3 with A3 | ⟨ne, A3⟩
      · exact absurd A3 e
      · have ec : (sign m c).count = r.count := by rw [A1]; exact A2
        refine sim_signs l (m := { (sign m c) with count := (sign m c).count + 1 }) (r := { s with count := r.count + 1 }) ⟨?_, A3, A4, A5⟩ ?_
        · rw [ec]
          conv => lhs; rw [A1]
        · exact not_done ne e
theorem sim_finish {m r : Reader} (h : Sim m r) (hd : isDone r = false) : Sim (finish m) (Vaesca.finish r) := by
  obtain ⟨h1, h2, h3, h4⟩ := h
  have em : m.mode = r.mode := by rw [h1]
  unfold finish Vaesca.finish
  rw [if_neg (show ¬ isDone r = true by rw [hd]; simp)]
  by_cases e : r.mode = .text
  · rw [if_pos (em.trans e), if_pos (by rw [beq_text]; exact decide_eq_true e)]
    obtain ⟨a1, a2, a3⟩ := mok _ e h2
    have er : m.run = r.run := by rw [h1]
    by_cases q : r.run = []
    · have l1 : endText m = m := by unfold endText; rw [if_pos (er.trans q)]
      have l2 : Vaesca.endText r = r := by unfold Vaesca.endText; rw [if_pos (by simp [q])]
      rw [l1, l2]
      refine ⟨?_, trivial, h3, h4⟩
      unfold Reader.go
      conv => lhs; rw [h1]
    · have ef := a3 q
      have l1 : endText m = endRun .text m m.count := by unfold endText; rw [if_neg (by rw [er]; exact q)]
      have l2 : Vaesca.endText r = { r with tokens := r.tokens ++ [.text r.from_ r.run], run := [] } := by unfold Vaesca.endText; rw [if_neg (by simpa using q)]
      rw [l1, l2]
      refine ⟨?_, trivial, h3, h4⟩
      have f1 : m.count = r.count := by rw [h1]
      have f2 : m.tokens = r.tokens := by rw [h1]
      unfold Reader.go endRun
      conv => lhs; rw [h1]
      simp [ef, f1, f2, er]
  · rw [if_neg (fun z => e (em.symm.trans z)), if_neg (by rw [beq_text]; simpa using e)]
    refine ⟨?_, trivial, h3, h4⟩
    have f1 : m.count = r.count := by rw [h1]
    unfold Reader.fail
    conv => lhs; rw [h1]
theorem sim_fresh : Sim fresh fresh := ⟨rfl, ⟨rfl, fun _ => rfl, fun z => absurd rfl z⟩, by simp [fresh], by simp [fresh]⟩
end Mi
end
section
set_option linter.all false
set_option maxHeartbeats 1000000
namespace Mi
open Vaesca
def W (m : Reader) : Nat := (written m.tokens).length
def aw (m : Reader) : Nat := (m.attrs.flatMap writeAttr).length
def bx (m : Reader) : Nat := W m + 6 * m.run.length + aw m
def phi1 (mo : Mode) (m : Reader) : Nat := match mo with
  | .text => bx m
  | .ref .text => bx m + 6 * m.body.length + 6
  | .ref _ => bx m + 6 * m.tag.length + 6 * m.attr.length + 6 * m.body.length + 18
  | .lt => bx m + 6
  | .openName => bx m + 6 * m.tag.length + 6
  | .ltSlash => bx m + 12
  | .closeName => bx m + 6 * m.tag.length + 12
  | .gap => bx m + 6 * m.tag.length + 12
  | .attrName => bx m + 6 * m.tag.length + 6 * m.attr.length + 12
  | .eq => bx m + 6 * m.tag.length + 6 * m.attr.length + 12
  | .double => bx m + 6 * m.tag.length + 6 * m.attr.length + 12
  | .single => bx m + 6 * m.tag.length + 6 * m.attr.length + 12
  | .bare => bx m + 6 * m.tag.length + 6 * m.attr.length + 12
  | .behind => bx m + 6 * m.tag.length + 6
  | .slash => bx m + 6 * m.tag.length + 6
  | .bang => bx m + 12
  | .bangDash => bx m + 18
  | .comment d => bx m + 6 * d + 24
  | .raw => bx m
  | .rawLt => bx m + 6
  | .rawEnd => bx m + 6 * m.body.length + 12
  | .ended => 0
  | .fault => 0
structure Bnd (N : Nat) (m : Reader) : Prop where
  w : W m ≤ 6 * N
  ph : phi1 m.mode m ≤ 6 * N
  tok : m.tokens.length ≤ 2 * N
  att : m.attrs.length ≤ N
  bod : m.body.length ≤ N
  mar : m.marks.length ≤ N
theorem bnd_fresh : Bnd 0 fresh := ⟨by decide, by decide, by decide, by decide, by decide, by decide⟩
theorem W_snoc (m m' : Reader) (t : Token) (h : m'.tokens = m.tokens ++ [t]) : W m' = W m + (writeToken t).length := by
  unfold W written
  rw [h, List.flatMap_append, List.length_append]
  simp
theorem len_text (s : Text) : (writeText s).length ≤ 6 * s.length := by
  unfold writeText
  induction s with
  | nil => simp
  | cons c s ih =>
    rw [List.flatMap_cons, List.length_append, List.length_cons]
    have : (writeTextSign c).length ≤ 6 := by
      unfold writeTextSign
      split
      · decide
      · split
        · decide
        · exact (by decide : 1 ≤ 6)
    omega
theorem len_value (s : Text) : (writeValue s).length ≤ 6 * s.length := by
  unfold writeValue
  induction s with
  | nil => simp
  | cons c s ih =>
    rw [List.flatMap_cons, List.length_append, List.length_cons]
    have : (writeValueSign c).length ≤ 6 := by
      unfold writeValueSign
      split
      · decide
      · split
        · decide
        · exact (by decide : 1 ≤ 6)
    omega
theorem len_attr (a : Text × Text) : (writeAttr a).length ≤ 4 + a.1.length + 6 * a.2.length := by
  unfold writeAttr
  have := len_value a.2
  simp only [List.length_append, List.length_cons, List.length_nil]
  omega
theorem aw_snoc (m m' : Reader) (a : Text × Text) (h : m'.attrs = m.attrs ++ [a]) : aw m' ≤ aw m + 4 + a.1.length + 6 * a.2.length := by
  unfold aw
  rw [h, List.flatMap_append, List.length_append]
  have := len_attr a
  simp
  omega
theorem len_opened (p : Nat) (n : Text) (as : List (Text × Text)) (e : Bool) : (writeToken (.opened p n as e)).length ≤ 3 + n.length + (as.flatMap writeAttr).length := by
  show ([60] ++ n ++ as.flatMap writeAttr ++ (if e then [47, 62] else [62])).length ≤ _
  rw [List.length_append, List.length_append, List.length_append]
  have : (if e then [47, 62] else [62] : Text).length ≤ 2 := by cases e <;> decide
  have h1 : ([60] : Text).length = 1 := rfl
  omega
theorem len_closed (p : Nat) (n : Text) : (writeToken (.closed p n)).length = 3 + n.length := by
  show ([60, 47] ++ n ++ [62]).length = _
  rw [List.length_append, List.length_append]
  show 2 + n.length + 1 = _
  omega
theorem len_comment (p : Nat) (n : Text) : (writeToken (.comment p n)).length = 7 + n.length := by
  show ([60, 33, 45, 45] ++ n ++ [45, 45, 62]).length = _
  rw [List.length_append, List.length_append]
  show 4 + n.length + 3 = _
  omega
variable {m : Reader} {c N : Nat}
theorem bx_add (u : Text) : bx (m.add u) = bx m + 6 * u.length := by
  unfold bx
  show W m + 6 * (m.run ++ u).length + aw m = _
  rw [List.length_append]
  omega
theorem add_same (u : Text) : m.add u = (m.add u).go m.mode := rfl
structure Lim (N : Nat) (m : Reader) : Prop where
  tok : m.tokens.length ≤ 2 * N
  att : m.attrs.length ≤ N
  bod : m.body.length ≤ N
  mar : m.marks.length ≤ N + 1
theorem mkL {s : Reader} (l : Lim N m) (h1 : W s ≤ 6 * (N + 1)) (h2 : phi1 s.mode s ≤ 6 * (N + 1)) (h3 : s.tokens.length ≤ m.tokens.length + 2) (h4 : s.attrs.length ≤ m.attrs.length + 1) (h5 : s.body.length ≤ m.body.length + 1) (h6 : s.marks.length ≤ m.marks.length) : Bnd (N + 1) s :=
  ⟨h1, h2, by have := l.tok; omega, by have := l.att; omega, by have := l.bod; omega, by have := l.mar; omega⟩
theorem W_le_bx : W m ≤ bx m := by unfold bx; omega
theorem l_fail (k : Nat) (l : Lim N m) (h : W m ≤ 6 * N) : Bnd (N + 1) (m.fail k) := mkL (s := m.fail k) l (by show W m ≤ _; omega) (Nat.zero_le _) (by show m.tokens.length ≤ _; omega) (by show m.attrs.length ≤ _; omega) (by show m.body.length ≤ _; omega) (Nat.le_refl _)
theorem l_go {mo : Mode} (l : Lim N m) (h : bx m ≤ 6 * N) (hp : phi1 mo m ≤ 6 * (N + 1)) : Bnd (N + 1) (m.go mo) := by
  have := W_le_bx (m := m)
  exact mkL (s := m.go mo) l (by show W m ≤ _; omega) hp (by show m.tokens.length ≤ _; omega) (by show m.attrs.length ≤ _; omega) (by show m.body.length ≤ _; omega) (Nat.le_refl _)
theorem l_add {mo : Mode} (u : Text) (l : Lim N m) (h : bx m ≤ 6 * N) (hp : phi1 mo (m.add u) ≤ 6 * (N + 1)) : Bnd (N + 1) ((m.add u).go mo) := by
  have := W_le_bx (m := m)
  exact mkL (s := (m.add u).go mo) l (by show W m ≤ _; omega) hp (by show m.tokens.length ≤ _; omega) (by show m.attrs.length ≤ _; omega) (by show m.body.length ≤ _; omega) (Nat.le_refl _)
theorem l_endText : W (endText m) ≤ bx m ∧ bx (endText m) ≤ bx m ∧ (endText m).tokens.length ≤ m.tokens.length + 1 ∧ (endText m).attrs = m.attrs ∧ (endText m).body = m.body ∧ (endText m).marks = m.marks := by
  unfold endText
  split
  · exact ⟨W_le_bx, Nat.le_refl _, by omega, rfl, rfl, rfl⟩
  · have e : W (endRun .text m m.count) = W m + (writeToken (.text m.from_ m.run)).length := W_snoc _ _ _ rfl
    have e2 : (writeToken (.text m.from_ m.run)).length ≤ 6 * m.run.length := len_text m.run
    refine ⟨by unfold bx; omega, ?_, ?_, rfl, rfl, rfl⟩
    · show W (endRun .text m m.count) + 6 * 0 + aw m ≤ bx m
      unfold bx
      omega
    · show (m.tokens ++ [_]).length ≤ _
      rw [List.length_append, List.length_singleton]
      omega
theorem b_text (l : Lim N m) (hm : m.mode = .text) (hb : m.body = []) (ph : bx m ≤ 6 * N) : Bnd (N + 1) (inText m c) := by
  unfold inText
  split
  · obtain ⟨h1, h2, h3, h4, h5, h6⟩ := l_endText (m := m)
    refine mkL (s := { endText m with mode := .lt }) l ?_ ?_ ?_ ?_ ?_ ?_
    · show W (endText m) ≤ _; omega
    · show bx (endText m) + 6 ≤ _; omega
    · show (endText m).tokens.length ≤ _; omega
    · show (endText m).attrs.length ≤ _; rw [h4]; omega
    · show (endText m).body.length ≤ _; rw [h5]; omega
    · show (endText m).marks.length ≤ _; rw [h6]; omega
  · split
    · refine l_go l ph ?_
      show bx m + 6 * m.body.length + 6 ≤ _
      rw [hb]; show _ + 6 * 0 + 6 ≤ _; omega
    · rw [add_same, hm]
      refine l_add _ l ph ?_
      show bx (m.add [c]) ≤ _
      rw [bx_add]; show _ + 6 * 1 ≤ _; omega
theorem b_ref (g : Home) (l : Lim N m) (hm : m.mode = .ref g) (ph : phi1 (.ref g) m ≤ 6 * N) : Bnd (N + 1) (inRef g m c) := by
  have hx : bx m + 6 * m.body.length + 6 ≤ 6 * N := by
    cases g <;> simp only [phi1] at ph <;> omega
  have hw := W_le_bx (m := m)
  unfold inRef
  split
  · cases e : byteOf m.body with
    | none => exact l_fail 4 l (by omega)
    | some b =>
      refine mkL (s := { m with run := m.run ++ [b], body := [], mode := g.mode }) l (by show W m ≤ _; omega) ?_ (by show m.tokens.length ≤ _; omega) (by show m.attrs.length ≤ _; omega) (Nat.zero_le _) (Nat.le_refl _)
      have e1 : (m.run ++ [b]).length = m.run.length + 1 := by rw [List.length_append]; rfl
      cases g
      · show W m + 6 * (m.run ++ [b]).length + aw m ≤ _
        rw [e1]; simp only [phi1] at ph; unfold bx at ph; omega
      · show W m + 6 * (m.run ++ [b]).length + aw m + 6 * m.tag.length + 6 * m.attr.length + 12 ≤ _
        rw [e1]; simp only [phi1] at ph; unfold bx at ph; omega
      · show W m + 6 * (m.run ++ [b]).length + aw m + 6 * m.tag.length + 6 * m.attr.length + 12 ≤ _
        rw [e1]; simp only [phi1] at ph; unfold bx at ph; omega
      · show W m + 6 * (m.run ++ [b]).length + aw m + 6 * m.tag.length + 6 * m.attr.length + 12 ≤ _
        rw [e1]; simp only [phi1] at ph; unfold bx at ph; omega
  · split
    · refine mkL (s := { m with body := m.body ++ [c] }) l (by show W m ≤ _; omega) ?_ (by show m.tokens.length ≤ _; omega) (by show m.attrs.length ≤ _; omega) (by show (m.body ++ [c]).length ≤ _; rw [List.length_append]; exact Nat.le_refl _) (Nat.le_refl _)
      show phi1 m.mode { m with body := m.body ++ [c] } ≤ _
      rw [hm]
      have e2 : (m.body ++ [c]).length = m.body.length + 1 := by rw [List.length_append]; rfl
      cases g
      · show bx m + 6 * (m.body ++ [c]).length + 6 ≤ _
        rw [e2]; simp only [phi1] at ph; omega
      · show bx m + 6 * m.tag.length + 6 * m.attr.length + 6 * (m.body ++ [c]).length + 18 ≤ _
        rw [e2]; simp only [phi1] at ph; omega
      · show bx m + 6 * m.tag.length + 6 * m.attr.length + 6 * (m.body ++ [c]).length + 18 ≤ _
        rw [e2]; simp only [phi1] at ph; omega
      · show bx m + 6 * m.tag.length + 6 * m.attr.length + 6 * (m.body ++ [c]).length + 18 ≤ _
        rw [e2]; simp only [phi1] at ph; omega
    · exact l_fail 4 l (by omega)
theorem b_lt (l : Lim N m) (ph : bx m + 6 ≤ 6 * N) : Bnd (N + 1) (inLt m c) := by
  have hw := W_le_bx (m := m)
  unfold inLt
  split
  · refine mkL (s := { m with tag := [c], mode := .openName }) l (by show W m ≤ _; omega) ?_ (by show m.tokens.length ≤ _; omega) (by show m.attrs.length ≤ _; omega) (by show m.body.length ≤ _; omega) (Nat.le_refl _)
    show bx m + 6 * 1 + 6 ≤ _; omega
  · split
    · exact l_go l (by omega) (by show bx m + 12 ≤ _; omega)
    · split
      · exact l_go l (by omega) (by show bx m + 12 ≤ _; omega)
      · exact l_fail 1 l (by omega)
theorem b_open (l : Lim N m) (e : Bool) : W (addOpen m e) + 6 * m.run.length ≤ bx m + 3 + m.tag.length ∧ (addOpen m e).tokens.length = m.tokens.length + 1 ∧ bx (addOpen m e) = W (addOpen m e) + 6 * m.run.length := by
  have e1 : W (addOpen m e) = W m + (writeToken (.opened m.from_ m.tag m.attrs e)).length := W_snoc _ _ _ rfl
  have e2 := len_opened m.from_ m.tag m.attrs e
  refine ⟨?_, ?_, ?_⟩
  · unfold bx aw; omega
  · show (m.tokens ++ [_]).length = _
    rw [List.length_append]; rfl
  · show W (addOpen m e) + 6 * m.run.length + 0 = _
    omega
theorem b_part (hw : W m ≤ 6 * N + 5) (hx : bx m + 6 * m.tag.length + 6 ≤ 6 * N) (t : m.tokens.length ≤ 2 * N) (a : m.attrs.length ≤ N + 1) (b : m.body.length ≤ N + 1) (k : m.marks.length ≤ N + 1) : Bnd (N + 1) (behindPart m c) := by
  have hw2 := W_le_bx (m := m)
  have gen : ∀ {s : Reader}, W s ≤ 6 * (N + 1) → phi1 s.mode s ≤ 6 * (N + 1) → s.tokens.length ≤ m.tokens.length + 2 → s.attrs.length ≤ m.attrs.length → s.body.length ≤ m.body.length → s.marks.length ≤ m.marks.length → Bnd (N + 1) s := fun h1 h2 h3 h4 h5 h6 => ⟨h1, h2, by omega, by omega, by omega, by omega⟩
  unfold behindPart
  split
  · refine gen (s := m.go .gap) (by show W m ≤ _; omega) ?_ (by show m.tokens.length ≤ _; omega) (Nat.le_refl _) (Nat.le_refl _) (Nat.le_refl _)
    show bx m + 6 * m.tag.length + 12 ≤ _; omega
  · split
    · refine gen (s := m.go .slash) (by show W m ≤ _; omega) ?_ (by show m.tokens.length ≤ _; omega) (Nat.le_refl _) (Nat.le_refl _) (Nat.le_refl _)
      show bx m + 6 * m.tag.length + 6 ≤ _; omega
    · split
      · obtain ⟨h1, h2, h3⟩ := b_open (m := m) (N := N + 1) ⟨by omega, by omega, by omega, by omega⟩ false
        unfold endOpen
        split
        · refine gen (s := { addOpen m false with mode := .raw }) ?_ ?_ ?_ (Nat.zero_le _) (Nat.le_refl _) (Nat.le_refl _)
          · show W (addOpen m false) ≤ _; omega
          · show bx (addOpen m false) ≤ _; omega
          · show (addOpen m false).tokens.length ≤ _; omega
        · refine gen (s := endTag (addOpen m false)) ?_ ?_ ?_ (Nat.zero_le _) (Nat.le_refl _) (Nat.le_refl _)
          · show W (addOpen m false) ≤ _; omega
          · show bx (addOpen m false) ≤ _; omega
          · show (addOpen m false).tokens.length ≤ _; omega
      · exact gen (s := m.fail 1) (by show W m ≤ _; omega) (Nat.zero_le _) (by show m.tokens.length ≤ _; omega) (Nat.le_refl _) (Nat.le_refl _) (Nat.le_refl _)
theorem b_endAttr : W (endAttr m) = W m ∧ bx (endAttr m) ≤ bx m + 4 + m.attr.length ∧ (endAttr m).attrs.length = m.attrs.length + 1 := by
  have e1 : aw (endAttr m) ≤ aw m + 4 + m.attr.length + 6 * m.run.length := aw_snoc m _ (m.attr, m.run) rfl
  refine ⟨rfl, ?_, ?_⟩
  · show W m + 6 * 0 + aw (endAttr m) ≤ bx m + 4 + m.attr.length
    unfold bx
    omega
  · show (m.attrs ++ [_]).length = _
    rw [List.length_append]; rfl
theorem b_partA (l : Lim N m) (ph : bx m + 6 * m.tag.length + 6 * m.attr.length + 12 ≤ 6 * N) : Bnd (N + 1) (behindPart (endAttr m) c) := by
  obtain ⟨h1, h2, h3⟩ := b_endAttr (m := m)
  have hw2 := W_le_bx (m := m)
  refine b_part (m := endAttr m) (by omega) ?_ l.tok (by have := l.att; omega) (by have := l.bod; show m.body.length ≤ _; omega) l.mar
  show bx (endAttr m) + 6 * m.tag.length + 6 ≤ _
  omega
theorem b_openName (l : Lim N m) (hm : m.mode = .openName) (ph : bx m + 6 * m.tag.length + 6 ≤ 6 * N) : Bnd (N + 1) (inOpenName m c) := by
  have hw := W_le_bx (m := m)
  unfold inOpenName
  split
  · split
    · exact l_fail 2 l (by omega)
    · refine mkL (s := { m with tag := m.tag ++ [c] }) l (by show W m ≤ _; omega) ?_ (by show m.tokens.length ≤ _; omega) (by show m.attrs.length ≤ _; omega) (by show m.body.length ≤ _; omega) (Nat.le_refl _)
      show phi1 m.mode _ ≤ _
      rw [hm]
      show bx m + 6 * (m.tag ++ [c]).length + 6 ≤ _
      rw [List.length_append]; show _ + 6 * (_ + 1) + 6 ≤ _; omega
  · exact b_part (by omega) (by omega) l.tok (by have := l.att; omega) (by have := l.bod; omega) l.mar
theorem b_ltSlash (l : Lim N m) (ph : bx m + 12 ≤ 6 * N) : Bnd (N + 1) (inLtSlash m c) := by
  have hw := W_le_bx (m := m)
  unfold inLtSlash
  split
  · refine mkL (s := { m with tag := [c], mode := .closeName }) l (by show W m ≤ _; omega) ?_ (by show m.tokens.length ≤ _; omega) (by show m.attrs.length ≤ _; omega) (by show m.body.length ≤ _; omega) (Nat.le_refl _)
    show bx m + 6 * 1 + 12 ≤ _; omega
  · exact l_fail 1 l (by omega)
theorem b_close (p : Nat) : W ({ m with tokens := m.tokens ++ [.closed p m.tag] } : Reader) = W m + 3 + m.tag.length := by
  have e1 := W_snoc m { m with tokens := m.tokens ++ [.closed p m.tag] } _ rfl
  rw [e1, len_closed]; omega
theorem b_closeName (l : Lim N m) (hm : m.mode = .closeName) (ph : bx m + 6 * m.tag.length + 12 ≤ 6 * N) : Bnd (N + 1) (inCloseName m c) := by
  have hw := W_le_bx (m := m)
  unfold inCloseName
  split
  · split
    · exact l_fail 2 l (by omega)
    · refine mkL (s := { m with tag := m.tag ++ [c] }) l (by show W m ≤ _; omega) ?_ (by show m.tokens.length ≤ _; omega) (by show m.attrs.length ≤ _; omega) (by show m.body.length ≤ _; omega) (Nat.le_refl _)
      show phi1 m.mode _ ≤ _
      rw [hm]
      show bx m + 6 * (m.tag ++ [c]).length + 12 ≤ _
      rw [List.length_append]; show _ + 6 * (_ + 1) + 12 ≤ _; omega
  · split
    · have e1 : W (endClose m) = W m + 3 + m.tag.length := b_close m.from_
      refine mkL (s := endClose m) l (by rw [e1]; omega) ?_ ?_ (by show m.attrs.length ≤ _; omega) (by show m.body.length ≤ _; omega) (Nat.le_refl _)
      · show W (endClose m) + 6 * m.run.length + aw m ≤ _
        rw [e1]; unfold bx at ph; omega
      · show (m.tokens ++ [_]).length ≤ _
        rw [List.length_append]; show _ + 1 ≤ _; omega
    · exact l_fail 1 l (by omega)
theorem b_gap (l : Lim N m) (ph : bx m + 6 * m.tag.length + 12 ≤ 6 * N) : Bnd (N + 1) (inGap m c) := by
  have hw := W_le_bx (m := m)
  unfold inGap
  split
  · refine mkL (s := { m with attr := [c], mode := .attrName }) l (by show W m ≤ _; omega) ?_ (by show m.tokens.length ≤ _; omega) (by show m.attrs.length ≤ _; omega) (by show m.body.length ≤ _; omega) (Nat.le_refl _)
    show bx m + 6 * m.tag.length + 6 * 1 + 12 ≤ _; omega
  · exact b_part (by omega) (by omega) l.tok (by have := l.att; omega) (by have := l.bod; omega) l.mar
theorem b_attrName (l : Lim N m) (hm : m.mode = .attrName) (ph : bx m + 6 * m.tag.length + 6 * m.attr.length + 12 ≤ 6 * N) : Bnd (N + 1) (inAttrName m c) := by
  have hw := W_le_bx (m := m)
  unfold inAttrName
  split
  · split
    · exact l_fail 2 l (by omega)
    · refine mkL (s := { m with attr := m.attr ++ [c] }) l (by show W m ≤ _; omega) ?_ (by show m.tokens.length ≤ _; omega) (by show m.attrs.length ≤ _; omega) (by show m.body.length ≤ _; omega) (Nat.le_refl _)
      show phi1 m.mode _ ≤ _
      rw [hm]
      show bx m + 6 * m.tag.length + 6 * (m.attr ++ [c]).length + 12 ≤ _
      rw [List.length_append]; show _ + 6 * (_ + 1) + 12 ≤ _; omega
  · split
    · exact l_fail 1 l (by omega)
    · split
      · exact l_fail 3 l (by omega)
      · split
        · exact l_go l (by omega) (by show bx m + 6 * m.tag.length + 6 * m.attr.length + 12 ≤ _; omega)
        · exact b_partA l ph
theorem b_behindA (l : Lim N m) (ph : bx m + 6 * m.tag.length + 6 * m.attr.length + 12 ≤ 6 * N + 6) : Bnd (N + 1) ((endAttr m).go .behind) := by
  obtain ⟨h1, h2, h3⟩ := b_endAttr (m := m)
  have hw2 := W_le_bx (m := m)
  refine mkL (s := (endAttr m).go .behind) l (by show W m ≤ _; omega) ?_ (by show m.tokens.length ≤ _; omega) (by show (endAttr m).attrs.length ≤ _; omega) (by show m.body.length ≤ _; omega) (Nat.le_refl _)
  show bx (endAttr m) + 6 * m.tag.length + 6 ≤ _
  omega
theorem b_eq (l : Lim N m) (hb : m.body = []) (ph : bx m + 6 * m.tag.length + 6 * m.attr.length + 12 ≤ 6 * N) : Bnd (N + 1) (inEq m c) := by
  have hw := W_le_bx (m := m)
  have hb0 : m.body.length = 0 := by rw [hb]; rfl
  have hx := bx_add (m := m) [c]
  have hx1 : ([c] : Text).length = 1 := rfl
  unfold inEq
  split
  · exact l_go l (by omega) (by show bx m + 6 * m.tag.length + 6 * m.attr.length + 12 ≤ _; omega)
  split
  · exact l_go l (by omega) (by show bx m + 6 * m.tag.length + 6 * m.attr.length + 12 ≤ _; omega)
  split
  · exact l_go l (by omega) (by show bx m + 6 * m.tag.length + 6 * m.attr.length + 6 * m.body.length + 18 ≤ _; omega)
  split
  · refine b_behindA (m := m.add [c]) ⟨l.tok, l.att, l.bod, l.mar⟩ ?_
    show bx (m.add [c]) + 6 * m.tag.length + 6 * m.attr.length + 12 ≤ _
    omega
  split
  · refine l_add _ l (by omega) ?_
    show bx (m.add [c]) + 6 * m.tag.length + 6 * m.attr.length + 12 ≤ _
    omega
  · exact l_fail 1 l (by omega)
theorem b_between (q : Nat) (g : Home) (hg : g = .double ∨ g = .single) (l : Lim N m) (hm : m.mode = g.mode) (hb : m.body = []) (ph : bx m + 6 * m.tag.length + 6 * m.attr.length + 12 ≤ 6 * N) : Bnd (N + 1) (inBetween q g m c) := by
  have hw := W_le_bx (m := m)
  have hb0 : m.body.length = 0 := by rw [hb]; rfl
  have hx := bx_add (m := m) [c]
  have hx1 : ([c] : Text).length = 1 := rfl
  unfold inBetween
  split
  · exact b_behindA l (by omega)
  split
  · refine l_go l (by omega) ?_
    rcases hg with rfl | rfl
    · show bx m + 6 * m.tag.length + 6 * m.attr.length + 6 * m.body.length + 18 ≤ _; omega
    · show bx m + 6 * m.tag.length + 6 * m.attr.length + 6 * m.body.length + 18 ≤ _; omega
  · rw [add_same, hm]
    refine l_add _ l (by omega) ?_
    rcases hg with rfl | rfl
    · show bx (m.add [c]) + 6 * m.tag.length + 6 * m.attr.length + 12 ≤ _; omega
    · show bx (m.add [c]) + 6 * m.tag.length + 6 * m.attr.length + 12 ≤ _; omega
theorem b_bare (l : Lim N m) (hm : m.mode = .bare) (hb : m.body = []) (ph : bx m + 6 * m.tag.length + 6 * m.attr.length + 12 ≤ 6 * N) : Bnd (N + 1) (inBare m c) := by
  have hw := W_le_bx (m := m)
  have hb0 : m.body.length = 0 := by rw [hb]; rfl
  have hx := bx_add (m := m) [c]
  have hx1 : ([c] : Text).length = 1 := rfl
  unfold inBare
  split
  · rw [add_same, hm]
    exact l_add _ l (by omega) (by show bx (m.add [c]) + 6 * m.tag.length + 6 * m.attr.length + 12 ≤ _; omega)
  split
  · exact l_go l (by omega) (by show bx m + 6 * m.tag.length + 6 * m.attr.length + 6 * m.body.length + 18 ≤ _; omega)
  split
  · exact b_partA l ph
  · exact l_fail 1 l (by omega)
theorem b_slash (l : Lim N m) (ph : bx m + 6 * m.tag.length + 6 ≤ 6 * N) : Bnd (N + 1) (inSlash m c) := by
  have hw := W_le_bx (m := m)
  unfold inSlash
  split
  · obtain ⟨h1, h2, h3⟩ := b_open (m := m) (N := N) l true
    refine mkL (s := endEnded m) l ?_ ?_ ?_ (Nat.zero_le _) (by show m.body.length ≤ _; omega) (Nat.le_refl _)
    · show W (addOpen m true) ≤ _; omega
    · show bx (addOpen m true) ≤ _; omega
    · show (addOpen m true).tokens.length ≤ _; omega
  · exact l_fail 1 l (by omega)
theorem b_bangs (l : Lim N m) (hm : m.mode = .bang ∧ bx m + 12 ≤ 6 * N ∨ m.mode ≠ .bang ∧ bx m + 18 ≤ 6 * N) : Bnd (N + 1) (inBangs m c) := by
  have hw := W_le_bx (m := m)
  unfold inBangs
  split
  · split
    · exact l_go l (by omega) (by show bx m + 18 ≤ _; omega)
    · rename_i e
      have : bx m + 18 ≤ 6 * N := by
        rcases hm with h | h
        · exact (e h.1).elim
        · exact h.2
      exact l_go l (by omega) (by show bx m + 6 * 0 + 24 ≤ _; omega)
  · exact l_fail 1 l (by omega)
theorem b_comment0 (l : Lim N m) (hm : m.mode = .comment 0) (ph : bx m + 24 ≤ 6 * N) : Bnd (N + 1) (inComment0 m c) := by
  have hx := bx_add (m := m) [c]
  have hx1 : ([c] : Text).length = 1 := rfl
  unfold inComment0
  split
  · exact l_go l (by omega) (by show bx m + 6 * 1 + 24 ≤ _; omega)
  · rw [add_same, hm]
    exact l_add _ l (by omega) (by show bx (m.add [c]) + 6 * 0 + 24 ≤ _; omega)
theorem b_comment1 (l : Lim N m) (ph : bx m + 30 ≤ 6 * N) : Bnd (N + 1) (inComment1 m c) := by
  have hx := bx_add (m := m) [45, c]
  have hx1 : ([45, c] : Text).length = 2 := rfl
  unfold inComment1
  split
  · exact l_go l (by omega) (by show bx m + 6 * 2 + 24 ≤ _; omega)
  · exact l_add _ l (by omega) (by show bx (m.add [45, c]) + 6 * 0 + 24 ≤ _; omega)
theorem b_comment2 (l : Lim N m) (d : Nat) (hd : 2 ≤ d) (hm : m.mode = .comment d) (ph : bx m + 6 * d + 24 ≤ 6 * N) : Bnd (N + 1) (inComment2 m c) := by
  have hw := W_le_bx (m := m)
  have hx := bx_add (m := m) [45]
  have hx1 : ([45] : Text).length = 1 := rfl
  have hy := bx_add (m := m) [45, 45, c]
  have hy1 : ([45, 45, c] : Text).length = 3 := rfl
  unfold inComment2
  split
  · rw [add_same, hm]
    exact l_add _ l (by omega) (by show bx (m.add [45]) + 6 * d + 24 ≤ _; omega)
  split
  · have e : W (endRun .comment m (m.count + 1)) = W m + (writeToken (.comment m.from_ m.run)).length := W_snoc _ _ _ rfl
    have e2 := len_comment m.from_ m.run
    refine mkL (s := (endRun .comment m (m.count + 1)).go .text) l ?_ ?_ ?_ (by show m.attrs.length ≤ _; omega) (by show m.body.length ≤ _; omega) (Nat.le_refl _)
    · show W (endRun .comment m (m.count + 1)) ≤ _
      unfold bx at ph; omega
    · show W (endRun .comment m (m.count + 1)) + 6 * 0 + aw m ≤ _
      unfold bx at ph; omega
    · show (m.tokens ++ [_]).length ≤ _
      rw [List.length_append]; show _ + 1 ≤ _; omega
  · exact l_add _ l (by omega) (by show bx (m.add [45, 45, c]) + 6 * 0 + 24 ≤ _; omega)
theorem b_raw (l : Lim N m) (hm : m.mode = .raw) (ph : bx m ≤ 6 * N) : Bnd (N + 1) (inRaw m c) := by
  have hx := bx_add (m := m) [c]
  have hx1 : ([c] : Text).length = 1 := rfl
  unfold inRaw
  split
  · exact l_go l (by omega) (by show bx m + 6 ≤ _; omega)
  · rw [add_same, hm]
    exact l_add _ l (by omega) (by show bx (m.add [c]) ≤ _; omega)
theorem b_rawLt (l : Lim N m) (hm : m.mode = .rawLt) (hb : m.body = []) (ph : bx m + 6 ≤ 6 * N) : Bnd (N + 1) (inRawLt m c) := by
  have hb0 : m.body.length = 0 := by rw [hb]; rfl
  have hx := bx_add (m := m) [60]
  have hx1 : ([60] : Text).length = 1 := rfl
  have hy := bx_add (m := m) [60, c]
  have hy1 : ([60, c] : Text).length = 2 := rfl
  unfold inRawLt
  split
  · exact l_go l (by omega) (by show bx m + 6 * m.body.length + 12 ≤ _; omega)
  split
  · rw [add_same, hm]
    exact l_add _ l (by omega) (by show bx (m.add [60]) + 6 ≤ _; omega)
  · exact l_add _ l (by omega) (by show bx (m.add [60, c]) ≤ _; omega)
theorem b_rawEnd (l : Lim N m) (hm : m.mode = .rawEnd) (ph : bx m + 6 * m.body.length + 12 ≤ 6 * N) : Bnd (N + 1) (inRawEnd m c) := by
  have hw := W_le_bx (m := m)
  unfold inRawEnd
  split
  · rename_i e
    have ht : m.tag.length ≤ m.body.length := List.drop_eq_nil_iff.mp e.1
    unfold endRaw
    split
    · rename_i er
      have e1 : W (endClose { m with body := [] }) = W m + 3 + m.tag.length := b_close (m := { m with body := [] }) m.from_
      refine mkL (s := endClose { m with body := [] }) l (by rw [e1]; omega) ?_ ?_ (by show m.attrs.length ≤ _; omega) (Nat.zero_le _) (Nat.le_refl _)
      · show W (endClose { m with body := [] }) + 6 * m.run.length + aw m ≤ _
        rw [e1]; unfold bx at ph; omega
      · show (m.tokens ++ [_]).length ≤ _
        rw [List.length_append]; show _ + 1 ≤ _; omega
    · have e0 : W (endRun .raw m (m.count - m.tag.length - 2)) = W m + (writeToken (.raw m.from_ m.run)).length := W_snoc _ _ _ rfl
      have e00 : (writeToken (.raw m.from_ m.run)).length = m.run.length := rfl
      have e1 : W (endClose { (endRun .raw m (m.count - m.tag.length - 2)) with body := [] }) = W (endRun .raw m (m.count - m.tag.length - 2)) + 3 + m.tag.length := b_close (m := { (endRun .raw m (m.count - m.tag.length - 2)) with body := [] }) (m.count - m.tag.length - 2)
      refine mkL (s := endClose { (endRun .raw m (m.count - m.tag.length - 2)) with body := [] }) l (by rw [e1]; unfold bx at ph; omega) ?_ ?_ (by show m.attrs.length ≤ _; omega) (Nat.zero_le _) (Nat.le_refl _)
      · show W (endClose { (endRun .raw m (m.count - m.tag.length - 2)) with body := [] }) + 6 * 0 + aw m ≤ _
        rw [e1]; unfold bx at ph; omega
      · show ((m.tokens ++ [_]) ++ [_]).length ≤ _
        rw [List.length_append, List.length_append]; exact Nat.le_refl _
  · split
    · refine mkL (s := { m with body := m.body ++ [c] }) l (by show W m ≤ _; omega) ?_ (by show m.tokens.length ≤ _; omega) (by show m.attrs.length ≤ _; omega) (by show (m.body ++ [c]).length ≤ _; rw [List.length_append]; exact Nat.le_refl _) (Nat.le_refl _)
      show phi1 m.mode _ ≤ _
      rw [hm]
      show bx m + 6 * (m.body ++ [c]).length + 12 ≤ _
      rw [List.length_append]; show _ + 6 * (_ + 1) + 12 ≤ _; omega
    · exact l_fail 6 l (by omega)
def Emp (m : Reader) : Prop := m.mode = .text ∨ m.mode = .eq ∨ m.mode = .double ∨ m.mode = .single ∨ m.mode = .bare ∨ m.mode = .rawLt → m.body = []
theorem b_step (l : Lim N m) (hp : phi1 m.mode m ≤ 6 * N) (he : Emp m) (h1 : m.mode ≠ .ended) (h2 : m.mode ≠ .fault) : Bnd (N + 1) (step m c) := by
  unfold step
  cases q : m.mode with
  | text => rw [q] at hp; exact b_text l q (he (.inl q)) hp
  | ref g => rw [q] at hp; exact b_ref g l q hp
  | lt => rw [q] at hp; exact b_lt l hp
  | openName => rw [q] at hp; exact b_openName l q hp
  | ltSlash => rw [q] at hp; exact b_ltSlash l hp
  | closeName => rw [q] at hp; exact b_closeName l q hp
  | gap => rw [q] at hp; exact b_gap l hp
  | attrName => rw [q] at hp; exact b_attrName l q hp
  | eq => rw [q] at hp; exact b_eq l (he (.inr (.inl q))) hp
  | double => rw [q] at hp; exact b_between 34 .double (.inl rfl) l q (he (.inr (.inr (.inl q)))) hp
  | single => rw [q] at hp; exact b_between 39 .single (.inr rfl) l q (he (.inr (.inr (.inr (.inl q))))) hp
  | bare => rw [q] at hp; exact b_bare l q (he (.inr (.inr (.inr (.inr (.inl q)))))) hp
  | behind =>
    rw [q] at hp
    have hp : bx m + 6 * m.tag.length + 6 ≤ 6 * N := hp
    have hw := W_le_bx (m := m)
    exact b_part (by omega) hp l.tok (by have := l.att; omega) (by have := l.bod; omega) l.mar
  | slash => rw [q] at hp; exact b_slash l hp
  | bang => rw [q] at hp; exact b_bangs l (.inl ⟨q, hp⟩)
  | bangDash => rw [q] at hp; exact b_bangs l (.inr ⟨(by rw [q]; intro z; cases z), hp⟩)
  | comment d =>
    rw [q] at hp
    have hp : bx m + 6 * d + 24 ≤ 6 * N := hp
    match d, q, hp with
    | 0, q, hp => exact b_comment0 l q (by omega)
    | 1, q, hp => exact b_comment1 l (by omega)
    | d + 2, q, hp => exact b_comment2 l (d + 2) (by omega) q hp
  | raw => rw [q] at hp; exact b_raw l q hp
  | rawLt => rw [q] at hp; exact b_rawLt l q (he (.inr (.inr (.inr (.inr (.inr q)))))) hp
  | rawEnd => rw [q] at hp; exact b_rawEnd l q hp
  | ended => exact (h1 q).elim
  | fault => exact (h2 q).elim
theorem b_sign (h : Bnd N m) (he : Emp m) (h1 : m.mode ≠ .ended) (h2 : m.mode ≠ .fault) : Bnd (N + 1) (sign m c) := by
  unfold sign
  have l : Lim N m := ⟨h.tok, h.att, h.bod, by have := h.mar; omega⟩
  split
  · cases e : spotOf m with
    | none => exact l_fail 5 l h.w
    | some s =>
      refine b_step (m := { m with marks := m.marks ++ [(c, s)] }) ⟨h.tok, h.att, h.bod, ?_⟩ h.ph he h1 h2
      show (m.marks ++ [_]).length ≤ _
      rw [List.length_append]
      have := h.mar
      show _ + 1 ≤ _
      omega
  · exact b_step l h.ph he h1 h2
theorem b_finish (h : Bnd N m) : Bnd (N + 1) (finish m) := by
  unfold finish
  have l : Lim N m := ⟨h.tok, h.att, h.bod, by have := h.mar; omega⟩
  split
  · rename_i hm
    have ph := h.ph
    rw [hm] at ph
    have ph : bx m ≤ 6 * N := ph
    obtain ⟨h1, h2, h3, h4, h5, h6⟩ := l_endText (m := m)
    refine mkL (s := (endText m).go .ended) l ?_ (Nat.zero_le _) ?_ ?_ ?_ ?_
    · show W (endText m) ≤ _; omega
    · show (endText m).tokens.length ≤ _; omega
    · show (endText m).attrs.length ≤ _; rw [h4]; omega
    · show (endText m).body.length ≤ _; rw [h5]; omega
    · show (endText m).marks.length ≤ _; rw [h6]; omega
  · exact l_fail 7 l h.w
end Mi
end
section
set_option linter.all false
set_option maxHeartbeats 1000000
namespace Mi
open Vaesca
variable {m r : Reader} {c N : Nat}
theorem Bnd.mono {N' : Nat} (h : Bnd N m) (l : N ≤ N') : Bnd N' m := ⟨by have := h.w; omega, by have := h.ph; omega, by have := h.tok; omega, by have := h.att; omega, by have := h.bod; omega, by have := h.mar; omega⟩
theorem cnt_endText : (endText m).count = m.count := by unfold endText; split <;> rfl
theorem cnt_endOpen : (endOpen m).count = m.count := by unfold endOpen; split <;> rfl
theorem cnt_part : (behindPart m c).count = m.count := by
  unfold behindPart
  split
  · rfl
  split
  · rfl
  split
  · exact cnt_endOpen
  · rfl
theorem cnt_step : (step m c).count = m.count := by
  unfold step
  cases m.mode with
  | text => show (inText m c).count = _; unfold inText; split; exact cnt_endText; split <;> rfl
  | ref g => show (inRef g m c).count = _; unfold inRef; split; split <;> rfl; split <;> rfl
  | lt => show (inLt m c).count = _; unfold inLt; split; rfl; split; rfl; split <;> rfl
  | openName => show (inOpenName m c).count = _; unfold inOpenName; split; split <;> rfl; exact cnt_part
  | ltSlash => show (inLtSlash m c).count = _; unfold inLtSlash; split <;> rfl
  | closeName => show (inCloseName m c).count = _; unfold inCloseName; split; split <;> rfl; split <;> rfl
  | gap => show (inGap m c).count = _; unfold inGap; split; rfl; exact cnt_part
  | attrName => show (inAttrName m c).count = _; unfold inAttrName; split; split <;> rfl; split; rfl; split; rfl; split; rfl; exact cnt_part
  | eq => show (inEq m c).count = _; unfold inEq; split; rfl; split; rfl; split; rfl; split; rfl; split <;> rfl
  | double => show (inBetween 34 .double m c).count = _; unfold inBetween; split; rfl; split <;> rfl
  | single => show (inBetween 39 .single m c).count = _; unfold inBetween; split; rfl; split <;> rfl
  | bare => show (inBare m c).count = _; unfold inBare; split; rfl; split; rfl; split; exact cnt_part; rfl
  | behind => exact cnt_part
  | slash => show (inSlash m c).count = _; unfold inSlash; split <;> rfl
  | bang => show (inBangs m c).count = _; unfold inBangs; split; split <;> rfl; rfl
  | bangDash => show (inBangs m c).count = _; unfold inBangs; split; split <;> rfl; rfl
  | comment d =>
    match d with
    | 0 => show (inComment0 m c).count = _; unfold inComment0; split <;> rfl
    | 1 => show (inComment1 m c).count = _; unfold inComment1; split <;> rfl
    | d + 2 => show (inComment2 m c).count = _; unfold inComment2; split; rfl; split <;> rfl
  | raw => show (inRaw m c).count = _; unfold inRaw; split <;> rfl
  | rawLt => show (inRawLt m c).count = _; unfold inRawLt; split; rfl; split <;> rfl
  | rawEnd => show (inRawEnd m c).count = _; unfold inRawEnd; split; (unfold endRaw; split <;> rfl); split <;> rfl
  | ended => rfl
  | fault => rfl
theorem cnt_sign : (sign m c).count = m.count := by
  unfold sign
  split
  · cases spotOf m with
    | none => rfl
    | some s => exact cnt_step (m := { m with marks := m.marks ++ [(c, s)] })
  · exact cnt_step
theorem cnt_finish : (finish m).count = m.count := by
  unfold finish
  split
  · exact cnt_endText
  · rfl
theorem done_finish : isDone (finish m) = true := by
  unfold finish
  split <;> rfl
theorem bx_le_phi (h1 : m.mode ≠ .ended) (h2 : m.mode ≠ .fault) : bx m ≤ phi1 m.mode m := by
  cases q : m.mode with
  | ref g => cases g <;> simp only [phi1] <;> omega
  | ended => exact (h1 q).elim
  | fault => exact (h2 q).elim
  | _ => simp only [phi1] <;> omega
structure Eqs (m r : Reader) : Prop where
  mode : m.mode = r.mode
  count : m.count = r.count
  tokens : m.tokens = r.tokens
  tag : m.tag = r.tag
  attrs : m.attrs = r.attrs
  attr : m.attr = r.attr
  body : m.body = r.body
  run : m.run = r.run
  marks : m.marks = r.marks
  wrong : m.wrong = r.wrong
theorem Sim.eqs (h : Sim m r) : Eqs m r := by
  have e := h.same
  constructor <;> (rw [e])
theorem Eqs.done (e : Eqs m r) : isDone m = isDone r := by unfold isDone; rw [e.mode]
theorem Eqs.faulty (e : Eqs m r) : Vaesca.faulty m = Vaesca.faulty r := by unfold Vaesca.faulty; rw [e.mode]
theorem nd_modes (h : isDone m = false) : m.mode ≠ .ended ∧ m.mode ≠ .fault := by
  refine ⟨fun z => ?_, fun z => ?_⟩
  · rw [done_of (.inl z)] at h; cases h
  · rw [done_of (.inr z)] at h; cases h
theorem Sim.emp (h : Sim m r) : Emp m := by
  have e := h.eqs
  have k : MOk1 r.mode r m.from_ := h.ok
  rw [← e.mode] at k
  intro z
  rw [e.body]
  rcases z with z | z | z | z | z | z <;> rw [z] at k
  · exact k.1
  · exact k.2.2.1
  · exact k.2.1
  · exact k.2.1
  · exact k.2.1
  · exact k.2.1
theorem one_sign (h : Sim m r) (hd : isDone r = false) : Sim (signs m [c]) (eat r c) ∧ (eat r c).mode ≠ .ended := by
  have := sim_signs [c] h hd
  exact this
end Mi
end
section
set_option Elab.async false
set_option linter.all false
set_option maxRecDepth 100000
set_option maxHeartbeats 2000000
namespace L2
open PySem PySem.Spec PyProof.Rows
def KD (P : Program) (w : World) (K : PySem.W.Frag) (d : Addr) (kvs : List (Key × V)) : Prop :=
  (d == sysModules) = false ∧ ∀ h : Heap, K.In h → ∃ vs, KV kvs vs ∧ h.DictOf (mixKind P w) d vs
def KDT (P : Program) (w : World) (K : PySem.W.Frag) (d : Addr) (kvs : List (List Key × V)) : Prop :=
  (d == sysModules) = false ∧ ∀ h : Heap, K.In h → ∃ xs, Paired (fun (p : List Key × V) (q : List Key × Addr × Value) => p.1 = q.1 ∧ RelV p.2 q.2.2) kvs xs ∧ h.DictOfH (tupleKind (mixKind P w)) d xs
theorem pt_val' {kvs : List (List Key × V)} {xs : List (List Key × Addr × Value)} (r : Paired (fun (p : List Key × V) (q : List Key × Addr × Value) => p.1 = q.1 ∧ RelV p.2 q.2.2) kvs xs) (k : List Key) : RelO (valV kvs k) ((atKey xs k).map (·.2)) := by
  induction r with
  | nil => exact True.intro
  | @cons p q ps qs h t ih =>
    obtain ⟨h1, h2⟩ := h
    by_cases e : p.1 = k
    · have e' : q.1 = k := h1.symm.trans e
      have b : atKey (q :: qs) k = some q.2 := by simp [atKey, List.find?_cons, e']
      rw [valV_pos e, b]; exact h2
    · have e' : ¬ q.1 = k := fun z => e (h1.trans z)
      have b : atKey (q :: qs) k = atKey qs k := by simp [atKey, List.find?_cons, e']
      rw [valV_neg e, b]; exact ih
def KGet (P : Program) (w : World) (K : PySem.W.Frag) (H : Hp) (a : Addr) (y : V) (r : Option V) : Prop :=
  (∃ kvs k, KD P w K a kvs ∧ y = kV k ∧ r = valV kvs k) ∨ ∃ kvs k b, KDT P w K a kvs ∧ y = .ref b ∧ H b = some (.tup (k.map kV)) ∧ r = valV kvs k
section
variable {X : Cx} {pins : List (Addr × Obj)} {σ : St} {H : Hp} {s : Shared} {a : Addr} {y v : V} {u : Value} {o : Option V} {A : Around} {E : Value → Shared → Prop}
theorem k_getItem {Q : Value → Shared → Prop} (hu : A.units + 1 < cLine) (I : Inv X pins σ H s) (g : KGet X.prog X.w X.K H a y (some v)) (ry : RelV y u) (h : ∀ w' s', Inv X pins σ H s' → RelV v w' → Q w' s') :
    wpAny (model X.prog X.w) A (getItem (.ref a) u) Q E s := by
  rcases g with ⟨kvs, k, e, ey, l⟩ | ⟨kvs, k, b, e, ey, eb, l⟩
  · subst ey
    obtain ⟨vs, rel, dd⟩ := e.2 _ I.kIn
    obtain ⟨w', hw, rw'⟩ := RelO.some_of (v := v) (o := valueAt vs k) (by rw [l]; exact rel.val k)
    exact wpAny_getItem_of (kV_is ry) dd.mapOf hw (h w' _ (I.tok _) rw')
  · subst ey
    cases (show u = Value.ref b from ry)
    obtain ⟨xs, rel, dd⟩ := e.2 _ I.kIn
    obtain ⟨w', hw, rw'⟩ := RelO.some_of (v := v) (o := (atKey xs k).map (·.2)) (by rw [l]; exact pt_val' rel k)
    obtain ⟨p, hp, hp2⟩ := Option.map_eq_some_iff.mp hw
    refine wpAny_getItem_heap (tupleKind_room_in1 hu) (key_of I.hok eb) dd hp ?_
    rw [hp2]
    exact h w' _ (I.tok _) rw'
theorem k_in {Q : Value → Shared → Prop} (hu : A.units + 1 < cLine) (I : Inv X pins σ H s) (g : KGet X.prog X.w X.K H a y o) (ry : RelV y u) (h : ∀ s', Inv X pins σ H s' → Q (.bool o.isSome) s') :
    wpAny (model X.prog X.w) A (compareOp .In u (.ref a)) Q E s := by
  rcases g with ⟨kvs, k, e, ey, l⟩ | ⟨kvs, k, b, e, ey, eb, l⟩
  · subst ey
    obtain ⟨vs, rel, dd⟩ := e.2 _ I.kIn
    refine wpAny_in_of (kV_is ry) e.1 dd.mapOf ?_
    rw [← (rel.val k).isSome_eq, ← l]
    exact h _ (I.tok _)
  · subst ey
    cases (show u = Value.ref b from ry)
    obtain ⟨xs, rel, dd⟩ := e.2 _ I.kIn
    refine wpAny_in_heap (tupleKind_room_in1 hu) (key_of I.hok eb) e.1 dd ?_
    have q := (pt_val' rel k).isSome_eq
    rw [Option.isSome_map] at q
    rw [← q, ← l]
    exact h _ (I.tok _)
theorem k_typeIs (I : Inv X pins σ H s) (g : KGet X.prog X.w X.K H a y o) : s.TypeIs (.ref a) "dict" := by
  rcases g with ⟨kvs, k, e, _, _⟩ | ⟨kvs, k, b, e, _, _, _⟩
  · obtain ⟨vs, _, dd⟩ := e.2 _ I.kIn
    exact dd.typeIs
  · obtain ⟨xs, _, dd⟩ := e.2 _ I.kIn
    exact dd.typeIs
end
def tKGet (P : Program) (w : World) (K : PySem.W.Frag) (td ty : TE) : TE := fun σ H Q => td σ H fun x H1 => ty σ H1 fun y H2 => ∃ a v, x = .ref a ∧ KGet P w K H2 a y (some v) ∧ Q v H2
def tKIn (P : Program) (w : World) (K : PySem.W.Frag) (ty td : TE) : TE := fun σ H Q => ty σ H fun y H1 => td σ H1 fun x H2 => ∃ a o, x = .ref a ∧ KGet P w K H2 a y o ∧ Q (.bl o.isSome) H2
section
variable {X : Cx} {o i e value : Expr} {pos pos' tpos : Pos} {td ty tv : TE}
theorem pe_kget (hu : X.A.units + 1 < cLine) (ho : PE X o td) (hi : PE X i ty) (hs : NoSl i) : PE X (.Subscript o i pos) (tKGet X.prog X.w X.K td ty) := by
  intro pins s σ H Q I h
  refine subD_of PySem.F.slot_dict_getitem.lookup hs (thn (ho pins s σ H _ I h) fun u s1 ⟨x, H1, I1, rx, q1⟩ => thn (hi pins s1 σ H1 _ I1 q1) fun iv s2 ⟨y, H2, I2, ry, a, v, ex, g, q2⟩ => ?_)
  subst ex
  obtain rfl : u = Value.ref a := rx
  exact ⟨k_typeIs I2 g, k_getItem hu I2 g ry fun w' s3 I3 rw' => ⟨v, H2, I3, rw', q2⟩⟩
theorem pc_kin (hu : X.A.units + 1 < cLine) (hi : PE X i ty) (ho : PE X o td) : PC X .In i o (tKIn X.prog X.w X.K ty td) := by
  intro pins s σ H Q I h
  refine thn (hi pins s σ H _ I h) fun iv s1 ⟨y, H1, I1, ry, q1⟩ => thn (ho pins s1 σ H1 _ I1 q1) fun u s2 ⟨x, H2, I2, rx, a, ov, ex, g, q2⟩ => ?_
  subst ex
  obtain rfl : u = Value.ref a := rx
  exact k_in hu I2 g ry fun s3 I3 => ⟨.bl ov.isSome, H2, I3, rfl, q2⟩
end
def tCallV (X : Cx) (CX : CXT) (E : XK) (te : TE) (t : TA) : TE := fun σ H Q => te σ H fun x H1 => ∃ (f : Addr) (fd : FuncData) (k : Nat) (ps : List Str) (sp : Sp), x = .ref f ∧ PySem.W.keepIn X.K (.ref f) = true ∧
  FnOk X.prog X.w X.K X.mg X.base CX k f fd ps sp ∧ Room k X.A ∧ Binds X.K fd ps [] ∧ t σ H1 fun vs H2 => sp vs H2 Q E
theorem pe_callV {X : Cx} {CX : CXT} {E : XK} {x : Str} {p pos : Pos} {e : Expr} {es : List Expr} {te : TE} {t : TA} (hn : PE X (.Name x p) te) (hx : Passes CX X E) (ha : PA X (e :: es) t)
    (he : starEach (e :: es) X.env = (false, eval e X.env) :: starEach es X.env := by rfl) (hpl : (backTo pos (starEach es X.env)).any (·.1) = false := by rfl) :
    PE X (.Call (.Name x p) (e :: es) [] pos) (tCallV X CX E te t) := by
  intro pins s σ H Q I h
  refine wpAny_Call_Name_kw (thn (hn pins s σ H _ I h) fun u s1 ⟨x, H1, I1, rx, f, fd, k, ps, sp, ex, hk, F, hr, hb, q⟩ => ?_)
  subst ex
  obtain rfl : u = Value.ref f := rx
  refine PySem.W.callWith_K (h₀ := X.base) I.ok.mod.kin hk (thn (ha pos pins s1 σ H1 _ I1 q) fun us s2 ⟨vs, H2, I2, r, q2⟩ => ⟨I2.kIn, ?_⟩) he hpl
  exact run_fn F hr hb .nil hx I2 r (by rw [List.append_nil]; exact q2)
def rInD (K : PySem.W.Frag) : R2 := fun x y H Q => ∃ (d : PyData) (p : Addr) (xs : List V) (ds : List PyData), Dp K H x d ∧ y = .ref p ∧ SqT K H p xs ∧ DpAll K H xs ds ∧ SeqAt.shaped d = true ∧ (∀ e ∈ ds, SeqAt.shaped e = true) ∧ Q (.bl (ds.any fun e => PyData.eqv e d)) H
open Classical in
noncomputable def eqSome (h : Heap) (d : PyData) (u : Value) : Bool := decide (∃ e as, Reads h u e as ∧ e.canLay0 = true ∧ PyData.eqv e d = true)
open Classical in
theorem eqSome_of {h : Heap} {d e : PyData} {u : Value} {as : List Addr} (r : Reads h u e as) (c : e.canLay0 = true) : eqSome h d u = PyData.eqv e d := by
  unfold eqSome
  by_cases q : PyData.eqv e d = true
  · rw [q]; exact decide_eq_true ⟨e, as, r, c, q⟩
  · have q' : PyData.eqv e d = false := by simpa using q
    rw [q']
    refine decide_eq_false ?_
    rintro ⟨e', as', r', c', z⟩
    have := SeqAt.Reads.unique e' e u as' as c' r' r
    rw [this] at z
    exact q z
theorem eqSome_any {h : Heap} {d : PyData} : ∀ {us : List Value} {ds : List PyData} {as : List Addr}, ReadsAll h us ds as → (∀ e ∈ ds, SeqAt.shaped e = true) → us.any (eqSome h d) = ds.any fun e => PyData.eqv e d
  | _, _, _, .nil, _ => rfl
  | _, _, _, .cons r rs, hs => by
    rw [List.any_cons, List.any_cons, eqSome_any rs fun e he => hs e (List.mem_cons_of_mem _ he), eqSome_of r (SeqAt.canLay_of_shaped (hs _ List.mem_cons_self))]
theorem eqSome_mem {h : Heap} {d : PyData} : ∀ {us : List Value} {ds : List PyData} {as : List Addr}, ReadsAll h us ds as → ∀ u ∈ us, ∃ e ∈ ds, ∃ bs, Reads h u e bs
  | _, _, _, .nil, u, hu => nomatch hu
  | _, _, _, .cons (v := v) r rs, u, hu => by
    rcases List.mem_cons.mp hu with rfl | hu
    · exact ⟨_, List.mem_cons_self, _, r⟩
    · obtain ⟨e, he, q⟩ := eqSome_mem (d := d) rs u hu
      exact ⟨e, List.mem_cons_of_mem _ he, q⟩
theorem op_inD {X : Cx} (hu : X.A.units + 128 < cLine) : OpR X (compareOp .In) (rInD X.K) := by
  intro pins s σ H x y v u Q I rx ry h
  obtain ⟨d, p, xs, ds, hd, rfl, hq, ha, sd, se, q⟩ := h
  cases ry
  obtain ⟨as, r1⟩ := Dp.reads I d x v hd rx
  obtain ⟨its, r, pl, hz⟩ := I.tuple hq
  obtain ⟨bs, r2⟩ := Dp.readsAll I ds xs its ha r
  refine SeqAt.in_tupleAt (eqSome s.heap d) pl (fun w hw => ?_) ⟨.bl _, H, I, rfl, ?_⟩
  · obtain ⟨e, he, cs, r3⟩ := eqSome_mem (d := d) r2 w (by simpa using hw)
    rw [eqSome_of r3 (SeqAt.canLay_of_shaped (se e he))]
    exact SeqAt.eqAt_reads e d X.A.in1 s w v _ _ r3 r1 (SeqAt.canLay_of_shaped (se e he)) (SeqAt.canLay_of_shaped sd) (SeqAt.room_of_shaped (se e he) (by show X.A.units + 1 + 64 < cLine; omega))
  · rw [show its.toArray.any (eqSome s.heap d) = its.any (eqSome s.heap d) by simp, eqSome_any r2 se]
    exact q
end L2
end
section
set_option Elab.async false
set_option linter.all false
set_option maxRecDepth 100000
set_option maxHeartbeats 2000000
namespace Mr
open PySem PySem.Spec PyProof.Rows L2
theorem sc_is_sign : FnScope ["number"] ["number"] (defScope s_is_sign) := ⟨rfl, rfl, rfl, by decide +kernel, rfl, by decide +kernel, by decide +kernel⟩
theorem sc_is_mark : FnScope ["sign"] ["sign"] (defScope s_is_mark) := ⟨rfl, rfl, rfl, by decide +kernel, rfl, by decide +kernel, by decide +kernel⟩
theorem sc_is_blank : FnScope ["sign"] ["sign"] (defScope s_is_blank) := ⟨rfl, rfl, rfl, by decide +kernel, rfl, by decide +kernel, by decide +kernel⟩
theorem sc_is_small_letter : FnScope ["sign"] ["sign"] (defScope s_is_small_letter) := ⟨rfl, rfl, rfl, by decide +kernel, rfl, by decide +kernel, by decide +kernel⟩
theorem sc_is_large_letter : FnScope ["sign"] ["sign"] (defScope s_is_large_letter) := ⟨rfl, rfl, rfl, by decide +kernel, rfl, by decide +kernel, by decide +kernel⟩
theorem sc_is_digit : FnScope ["sign"] ["sign"] (defScope s_is_digit) := ⟨rfl, rfl, rfl, by decide +kernel, rfl, by decide +kernel, by decide +kernel⟩
theorem sc_is_name_sign : FnScope ["sign"] ["sign"] (defScope s_is_name_sign) := ⟨rfl, rfl, rfl, by decide +kernel, rfl, by decide +kernel, by decide +kernel⟩
theorem sc_is_body_sign : FnScope ["sign"] ["sign"] (defScope s_is_body_sign) := ⟨rfl, rfl, rfl, by decide +kernel, rfl, by decide +kernel, by decide +kernel⟩
theorem sc_is_bare_sign : FnScope ["sign"] ["sign"] (defScope s_is_bare_sign) := ⟨rfl, rfl, rfl, by decide +kernel, rfl, by decide +kernel, by decide +kernel⟩
theorem sc_Token_init : FnScope ["self", "kind", "place", "signs", "attributes", "ended"] ["self", "kind", "place", "signs", "attributes", "ended"] (defScope s_Token_init) := ⟨rfl, rfl, rfl, by decide +kernel, rfl, by decide +kernel, by decide +kernel⟩
theorem sc_Reader_init : FnScope ["self"] ["self"] (defScope s_Reader_init) := ⟨rfl, rfl, rfl, by decide +kernel, rfl, by decide +kernel, by decide +kernel⟩
theorem sc_Reader_renew : FnScope ["self"] ["self"] (defScope s_Reader_renew) := ⟨rfl, rfl, rfl, by decide +kernel, rfl, by decide +kernel, by decide +kernel⟩
theorem sc_Reader_fail : FnScope ["self", "kind"] ["self", "kind"] (defScope s_Reader_fail) := ⟨rfl, rfl, rfl, by decide +kernel, rfl, by decide +kernel, by decide +kernel⟩
theorem sc_Reader_add_token : FnScope ["self", "kind", "signs", "place_behind"] ["self", "kind", "signs", "place_behind"] (defScope s_Reader_add_token) := ⟨rfl, rfl, rfl, by decide +kernel, rfl, by decide +kernel, by decide +kernel⟩
theorem sc_Reader_end_run : FnScope ["self", "kind", "place_behind"] ["self", "kind", "place_behind"] (defScope s_Reader_end_run) := ⟨rfl, rfl, rfl, by decide +kernel, rfl, by decide +kernel, by decide +kernel⟩
theorem sc_Reader_end_attribute : FnScope ["self"] ["self"] (defScope s_Reader_end_attribute) := ⟨rfl, rfl, rfl, by decide +kernel, rfl, by decide +kernel, by decide +kernel⟩
theorem sc_Reader_add_open_tag : FnScope ["self", "ended"] ["self", "ended"] (defScope s_Reader_add_open_tag) := ⟨rfl, rfl, rfl, by decide +kernel, rfl, by decide +kernel, by decide +kernel⟩
theorem sc_Reader_end_tag : FnScope ["self"] ["self"] (defScope s_Reader_end_tag) := ⟨rfl, rfl, rfl, by decide +kernel, rfl, by decide +kernel, by decide +kernel⟩
theorem sc_Reader_end_open_tag : FnScope ["self"] ["self"] (defScope s_Reader_end_open_tag) := ⟨rfl, rfl, rfl, by decide +kernel, rfl, by decide +kernel, by decide +kernel⟩
theorem sc_Reader_end_ended_tag : FnScope ["self"] ["self"] (defScope s_Reader_end_ended_tag) := ⟨rfl, rfl, rfl, by decide +kernel, rfl, by decide +kernel, by decide +kernel⟩
theorem sc_digit_value : FnScope ["sign"] ["sign"] (defScope s_digit_value) := ⟨rfl, rfl, rfl, by decide +kernel, rfl, by decide +kernel, by decide +kernel⟩
theorem sc_number_byte : FnScope ["digits", "base", "most_digits", "number", "digit", "value"] ["digits", "base", "most_digits"] (defScope s_number_byte) := ⟨rfl, rfl, rfl, by decide +kernel, rfl, by decide +kernel, by decide +kernel⟩
theorem sc_reference_byte : FnScope ["body"] ["body"] (defScope s_reference_byte) := ⟨rfl, rfl, rfl, by decide +kernel, rfl, by decide +kernel, by decide +kernel⟩
theorem sc_read_in_text : FnScope ["reader", "sign"] ["reader", "sign"] (defScope s_read_in_text) := ⟨rfl, rfl, rfl, by decide +kernel, rfl, by decide +kernel, by decide +kernel⟩
theorem sc_end_run_of_text : FnScope ["reader"] ["reader"] (defScope s_end_run_of_text) := ⟨rfl, rfl, rfl, by decide +kernel, rfl, by decide +kernel, by decide +kernel⟩
theorem sc_read_in_reference : FnScope ["reader", "sign"] ["reader", "sign"] (defScope s_read_in_reference) := ⟨rfl, rfl, rfl, by decide +kernel, rfl, by decide +kernel, by decide +kernel⟩
theorem sc_end_reference : FnScope ["reader", "meant"] ["reader"] (defScope s_end_reference) := ⟨rfl, rfl, rfl, by decide +kernel, rfl, by decide +kernel, by decide +kernel⟩
theorem sc_read_behind_less : FnScope ["reader", "sign"] ["reader", "sign"] (defScope s_read_behind_less) := ⟨rfl, rfl, rfl, by decide +kernel, rfl, by decide +kernel, by decide +kernel⟩
theorem sc_add_to_name : FnScope ["reader", "name", "sign"] ["reader", "name", "sign"] (defScope s_add_to_name) := ⟨rfl, rfl, rfl, by decide +kernel, rfl, by decide +kernel, by decide +kernel⟩
theorem sc_read_in_open_tag_name : FnScope ["reader", "sign"] ["reader", "sign"] (defScope s_read_in_open_tag_name) := ⟨rfl, rfl, rfl, by decide +kernel, rfl, by decide +kernel, by decide +kernel⟩
theorem sc_read_behind_part_of_tag : FnScope ["reader", "sign"] ["reader", "sign"] (defScope s_read_behind_part_of_tag) := ⟨rfl, rfl, rfl, by decide +kernel, rfl, by decide +kernel, by decide +kernel⟩
theorem sc_read_behind_less_slash : FnScope ["reader", "sign"] ["reader", "sign"] (defScope s_read_behind_less_slash) := ⟨rfl, rfl, rfl, by decide +kernel, rfl, by decide +kernel, by decide +kernel⟩
theorem sc_read_in_close_tag_name : FnScope ["reader", "sign"] ["reader", "sign"] (defScope s_read_in_close_tag_name) := ⟨rfl, rfl, rfl, by decide +kernel, rfl, by decide +kernel, by decide +kernel⟩
theorem sc_end_close_tag : FnScope ["reader"] ["reader"] (defScope s_end_close_tag) := ⟨rfl, rfl, rfl, by decide +kernel, rfl, by decide +kernel, by decide +kernel⟩
theorem sc_read_in_gap : FnScope ["reader", "sign"] ["reader", "sign"] (defScope s_read_in_gap) := ⟨rfl, rfl, rfl, by decide +kernel, rfl, by decide +kernel, by decide +kernel⟩
theorem sc_read_in_attribute_name : FnScope ["reader", "sign"] ["reader", "sign"] (defScope s_read_in_attribute_name) := ⟨rfl, rfl, rfl, by decide +kernel, rfl, by decide +kernel, by decide +kernel⟩
theorem sc_read_behind_equals : FnScope ["reader", "sign"] ["reader", "sign"] (defScope s_read_behind_equals) := ⟨rfl, rfl, rfl, by decide +kernel, rfl, by decide +kernel, by decide +kernel⟩
theorem sc_read_in_quotes : FnScope ["reader", "sign"] ["reader", "sign"] (defScope s_read_in_quotes) := ⟨rfl, rfl, rfl, by decide +kernel, rfl, by decide +kernel, by decide +kernel⟩
theorem sc_read_in_apostrophes : FnScope ["reader", "sign"] ["reader", "sign"] (defScope s_read_in_apostrophes) := ⟨rfl, rfl, rfl, by decide +kernel, rfl, by decide +kernel, by decide +kernel⟩
theorem sc_read_between : FnScope ["reader", "sign", "closing", "reference_mode"] ["reader", "sign", "closing", "reference_mode"] (defScope s_read_between) := ⟨rfl, rfl, rfl, by decide +kernel, rfl, by decide +kernel, by decide +kernel⟩
theorem sc_read_in_bare_value : FnScope ["reader", "sign"] ["reader", "sign"] (defScope s_read_in_bare_value) := ⟨rfl, rfl, rfl, by decide +kernel, rfl, by decide +kernel, by decide +kernel⟩
theorem sc_read_behind_slash : FnScope ["reader", "sign"] ["reader", "sign"] (defScope s_read_behind_slash) := ⟨rfl, rfl, rfl, by decide +kernel, rfl, by decide +kernel, by decide +kernel⟩
theorem sc_read_dash_ahead_of_comment : FnScope ["reader", "sign"] ["reader", "sign"] (defScope s_read_dash_ahead_of_comment) := ⟨rfl, rfl, rfl, by decide +kernel, rfl, by decide +kernel, by decide +kernel⟩
theorem sc_read_in_comment : FnScope ["reader", "sign"] ["reader", "sign"] (defScope s_read_in_comment) := ⟨rfl, rfl, rfl, by decide +kernel, rfl, by decide +kernel, by decide +kernel⟩
theorem sc_read_behind_one_dash : FnScope ["reader", "sign"] ["reader", "sign"] (defScope s_read_behind_one_dash) := ⟨rfl, rfl, rfl, by decide +kernel, rfl, by decide +kernel, by decide +kernel⟩
theorem sc_read_behind_two_dashes : FnScope ["reader", "sign"] ["reader", "sign"] (defScope s_read_behind_two_dashes) := ⟨rfl, rfl, rfl, by decide +kernel, rfl, by decide +kernel, by decide +kernel⟩
theorem sc_read_in_raw_text : FnScope ["reader", "sign"] ["reader", "sign"] (defScope s_read_in_raw_text) := ⟨rfl, rfl, rfl, by decide +kernel, rfl, by decide +kernel, by decide +kernel⟩
theorem sc_read_in_raw_text_behind_less : FnScope ["reader", "sign"] ["reader", "sign"] (defScope s_read_in_raw_text_behind_less) := ⟨rfl, rfl, rfl, by decide +kernel, rfl, by decide +kernel, by decide +kernel⟩
theorem sc_read_in_raw_close_tag : FnScope ["reader", "sign", "rest"] ["reader", "sign"] (defScope s_read_in_raw_close_tag) := ⟨rfl, rfl, rfl, by decide +kernel, rfl, by decide +kernel, by decide +kernel⟩
theorem sc_end_raw_element : FnScope ["reader", "close_tag_place"] ["reader"] (defScope s_end_raw_element) := ⟨rfl, rfl, rfl, by decide +kernel, rfl, by decide +kernel, by decide +kernel⟩
theorem sc_takes_marks : FnScope ["reader"] ["reader"] (defScope s_takes_marks) := ⟨rfl, rfl, rfl, by decide +kernel, rfl, by decide +kernel, by decide +kernel⟩
theorem sc_read_sign : FnScope ["reader", "sign", "step"] ["reader", "sign"] (defScope s_read_sign) := ⟨rfl, rfl, rfl, by decide +kernel, rfl, by decide +kernel, by decide +kernel⟩
theorem sc_read_signs : FnScope ["reader", "signs", "sign"] ["reader", "signs"] (defScope s_read_signs) := ⟨rfl, rfl, rfl, by decide +kernel, rfl, by decide +kernel, by decide +kernel⟩
theorem sc_read_end : FnScope ["reader"] ["reader"] (defScope s_read_end) := ⟨rfl, rfl, rfl, by decide +kernel, rfl, by decide +kernel, by decide +kernel⟩
theorem sc_with_references : FnScope ["signs", "replaced", "written", "sign"] ["signs", "replaced"] (defScope s_with_references) := ⟨rfl, rfl, rfl, by decide +kernel, rfl, by decide +kernel, by decide +kernel⟩
theorem sc_write_run_of_text : FnScope ["token"] ["token"] (defScope s_write_run_of_text) := ⟨rfl, rfl, rfl, by decide +kernel, rfl, by decide +kernel, by decide +kernel⟩
theorem sc_write_attribute : FnScope ["name", "value"] ["name", "value"] (defScope s_write_attribute) := ⟨rfl, rfl, rfl, by decide +kernel, rfl, by decide +kernel, by decide +kernel⟩
theorem sc_write_open_tag : FnScope ["token", "written", "name", "value"] ["token"] (defScope s_write_open_tag) := ⟨rfl, rfl, rfl, by decide +kernel, rfl, by decide +kernel, by decide +kernel⟩
theorem sc_write_close_tag : FnScope ["token"] ["token"] (defScope s_write_close_tag) := ⟨rfl, rfl, rfl, by decide +kernel, rfl, by decide +kernel, by decide +kernel⟩
theorem sc_write_comment : FnScope ["token"] ["token"] (defScope s_write_comment) := ⟨rfl, rfl, rfl, by decide +kernel, rfl, by decide +kernel, by decide +kernel⟩
theorem sc_write_raw_text : FnScope ["token"] ["token"] (defScope s_write_raw_text) := ⟨rfl, rfl, rfl, by decide +kernel, rfl, by decide +kernel, by decide +kernel⟩
theorem sc_write_tokens : FnScope ["tokens", "written", "token", "write"] ["tokens"] (defScope s_write_tokens) := ⟨rfl, rfl, rfl, by decide +kernel, rfl, by decide +kernel, by decide +kernel⟩
theorem sc_reads_no_more : FnScope ["reader"] ["reader"] (defScope s_reads_no_more) := ⟨rfl, rfl, rfl, by decide +kernel, rfl, by decide +kernel, by decide +kernel⟩
theorem sc_fault_now : FnScope ["reader"] ["reader"] (defScope s_fault_now) := ⟨rfl, rfl, rfl, by decide +kernel, rfl, by decide +kernel, by decide +kernel⟩
theorem sc_refusal_of : FnScope ["signs", "read_before", "number"] ["signs", "read_before"] (defScope s_refusal_of) := ⟨rfl, rfl, rfl, by decide +kernel, rfl, by decide +kernel, by decide +kernel⟩
theorem sc_with_length : FnScope ["signs"] ["signs"] (defScope s_with_length) := ⟨rfl, rfl, rfl, by decide +kernel, rfl, by decide +kernel, by decide +kernel⟩
theorem sc_begin : FnScope ["reader"] ["reader"] (defScope s_begin) := ⟨rfl, rfl, rfl, by decide +kernel, rfl, by decide +kernel, by decide +kernel⟩
theorem sc_feed : FnScope ["reader", "signs", "refusal"] ["reader", "signs"] (defScope s_feed) := ⟨rfl, rfl, rfl, by decide +kernel, rfl, by decide +kernel, by decide +kernel⟩
theorem sc_end : FnScope ["reader"] ["reader"] (defScope s_end) := ⟨rfl, rfl, rfl, by decide +kernel, rfl, by decide +kernel, by decide +kernel⟩
theorem sc_fault : FnScope ["reader"] ["reader"] (defScope s_fault) := ⟨rfl, rfl, rfl, by decide +kernel, rfl, by decide +kernel, by decide +kernel⟩
theorem sc_tokens : FnScope ["reader"] ["reader"] (defScope s_tokens) := ⟨rfl, rfl, rfl, by decide +kernel, rfl, by decide +kernel, by decide +kernel⟩
theorem sc_parts_of_open_tag : FnScope ["tag", "parts", "name", "value"] ["tag"] (defScope s_parts_of_open_tag) := ⟨rfl, rfl, rfl, by decide +kernel, rfl, by decide +kernel, by decide +kernel⟩
theorem sc_token : FnScope ["reader", "i", "asked", "parts"] ["reader", "i"] (defScope s_token) := ⟨rfl, rfl, rfl, by decide +kernel, rfl, by decide +kernel, by decide +kernel⟩
theorem sc_state : FnScope ["reader", "counts"] ["reader"] (defScope s_state) := ⟨rfl, rfl, rfl, by decide +kernel, rfl, by decide +kernel, by decide +kernel⟩
theorem sc_marks : FnScope ["reader", "answer", "mark", "spot"] ["reader"] (defScope s_marks) := ⟨rfl, rfl, rfl, by decide +kernel, rfl, by decide +kernel, by decide +kernel⟩
theorem sc_written : FnScope ["reader"] ["reader"] (defScope s_written) := ⟨rfl, rfl, rfl, by decide +kernel, rfl, by decide +kernel, by decide +kernel⟩
theorem sc_whole : FnScope ["reader", "signs", "refusal"] ["reader", "signs"] (defScope s_whole) := ⟨rfl, rfl, rfl, by decide +kernel, rfl, by decide +kernel, by decide +kernel⟩
theorem sc_length_of_call : FnScope ["calls", "position", "number"] ["calls", "position"] (defScope s_length_of_call) := ⟨rfl, rfl, rfl, by decide +kernel, rfl, by decide +kernel, by decide +kernel⟩
theorem sc_answer_of : FnScope ["reader", "call", "number", "call_with_signs", "call_with_number", "call_alone"] ["reader", "call"] (defScope s_answer_of) := ⟨rfl, rfl, rfl, by decide +kernel, rfl, by decide +kernel, by decide +kernel⟩
theorem sc_answers : FnScope ["calls", "reader", "answered", "position", "behind"] ["calls"] (defScope s_answers) := ⟨rfl, rfl, rfl, by decide +kernel, rfl, by decide +kernel, by decide +kernel⟩
def PlainT (K : PySem.W.Frag) (b : Addr) (zs : List V) : Prop := zs.length ≤ sizeLine ∧ ∃ (its : List Value) (n : Nat), Vals zs its ∧ K.lookup b = some { cls := .type "tuple", data := .seq its.toArray n }
structure Tx (P : Program) (w : World) (K : PySem.W.Frag) (mg : Str → Option Value) (B : Adr) : Prop where
  n_len : mg "len" = none
  n_all : mg "all" = none
  n_list : mg "list" = none
  n_tuple : mg "tuple" = none
  c_TEXT : ∃ t, mg "TEXT" = some (.int 0 t)
  c_REFERENCE_IN_TEXT : ∃ t, mg "REFERENCE_IN_TEXT" = some (.int 1 t)
  c_REFERENCE_IN_QUOTES : ∃ t, mg "REFERENCE_IN_QUOTES" = some (.int 2 t)
  c_REFERENCE_IN_APOSTROPHES : ∃ t, mg "REFERENCE_IN_APOSTROPHES" = some (.int 3 t)
  c_REFERENCE_IN_BARE_VALUE : ∃ t, mg "REFERENCE_IN_BARE_VALUE" = some (.int 4 t)
  c_BEHIND_LESS : ∃ t, mg "BEHIND_LESS" = some (.int 5 t)
  c_OPEN_TAG_NAME : ∃ t, mg "OPEN_TAG_NAME" = some (.int 6 t)
  c_BEHIND_LESS_SLASH : ∃ t, mg "BEHIND_LESS_SLASH" = some (.int 7 t)
  c_CLOSE_TAG_NAME : ∃ t, mg "CLOSE_TAG_NAME" = some (.int 8 t)
  c_GAP : ∃ t, mg "GAP" = some (.int 9 t)
  c_ATTRIBUTE_NAME : ∃ t, mg "ATTRIBUTE_NAME" = some (.int 10 t)
  c_BEHIND_EQUALS : ∃ t, mg "BEHIND_EQUALS" = some (.int 11 t)
  c_VALUE_IN_QUOTES : ∃ t, mg "VALUE_IN_QUOTES" = some (.int 12 t)
  c_VALUE_IN_APOSTROPHES : ∃ t, mg "VALUE_IN_APOSTROPHES" = some (.int 13 t)
  c_BARE_VALUE : ∃ t, mg "BARE_VALUE" = some (.int 14 t)
  c_BEHIND_VALUE : ∃ t, mg "BEHIND_VALUE" = some (.int 15 t)
  c_BEHIND_SLASH : ∃ t, mg "BEHIND_SLASH" = some (.int 16 t)
  c_BEHIND_LESS_EXCLAMATION : ∃ t, mg "BEHIND_LESS_EXCLAMATION" = some (.int 17 t)
  c_BEHIND_FIRST_DASH : ∃ t, mg "BEHIND_FIRST_DASH" = some (.int 18 t)
  c_COMMENT : ∃ t, mg "COMMENT" = some (.int 19 t)
  c_COMMENT_ONE_DASH : ∃ t, mg "COMMENT_ONE_DASH" = some (.int 20 t)
  c_COMMENT_TWO_DASHES : ∃ t, mg "COMMENT_TWO_DASHES" = some (.int 21 t)
  c_RAW_TEXT : ∃ t, mg "RAW_TEXT" = some (.int 22 t)
  c_RAW_BEHIND_LESS : ∃ t, mg "RAW_BEHIND_LESS" = some (.int 23 t)
  c_RAW_CLOSE_TAG : ∃ t, mg "RAW_CLOSE_TAG" = some (.int 24 t)
  c_ENDED : ∃ t, mg "ENDED" = some (.int 25 t)
  c_FAULTY : ∃ t, mg "FAULTY" = some (.int 26 t)
  c_SPACE : ∃ t, mg "SPACE" = some (.int 32 t)
  c_EXCLAMATION : ∃ t, mg "EXCLAMATION" = some (.int 33 t)
  c_QUOTE : ∃ t, mg "QUOTE" = some (.int 34 t)
  c_NUMBER_SIGN : ∃ t, mg "NUMBER_SIGN" = some (.int 35 t)
  c_AMPERSAND : ∃ t, mg "AMPERSAND" = some (.int 38 t)
  c_APOSTROPHE : ∃ t, mg "APOSTROPHE" = some (.int 39 t)
  c_DASH : ∃ t, mg "DASH" = some (.int 45 t)
  c_SLASH : ∃ t, mg "SLASH" = some (.int 47 t)
  c_SEMICOLON : ∃ t, mg "SEMICOLON" = some (.int 59 t)
  c_LESS : ∃ t, mg "LESS" = some (.int 60 t)
  c_EQUALS : ∃ t, mg "EQUALS" = some (.int 61 t)
  c_GREATER : ∃ t, mg "GREATER" = some (.int 62 t)
  c_RUN_OF_TEXT_TOKEN : ∃ t, mg "RUN_OF_TEXT_TOKEN" = some (.int 0 t)
  c_OPEN_TAG_TOKEN : ∃ t, mg "OPEN_TAG_TOKEN" = some (.int 1 t)
  c_CLOSE_TAG_TOKEN : ∃ t, mg "CLOSE_TAG_TOKEN" = some (.int 2 t)
  c_COMMENT_TOKEN : ∃ t, mg "COMMENT_TOKEN" = some (.int 3 t)
  c_RAW_TEXT_TOKEN : ∃ t, mg "RAW_TEXT_TOKEN" = some (.int 4 t)
  c_NO_DIGIT : ∃ t, mg "NO_DIGIT" = some (.int 16 t)
  c_WRONG_BYTE : ∃ t, mg "WRONG_BYTE" = some (.int 1 t)
  c_LONG_NAME : ∃ t, mg "LONG_NAME" = some (.int 2 t)
  c_SAME_ATTRIBUTE : ∃ t, mg "SAME_ATTRIBUTE" = some (.int 3 t)
  c_NO_REFERENCE : ∃ t, mg "NO_REFERENCE" = some (.int 4 t)
  c_WRONG_MARK : ∃ t, mg "WRONG_MARK" = some (.int 5 t)
  c_WRONG_RAW_END : ∃ t, mg "WRONG_RAW_END" = some (.int 6 t)
  c_EARLY_END : ∃ t, mg "EARLY_END" = some (.int 7 t)
  c_LONGEST_NAME : ∃ t, mg "LONGEST_NAME" = some (.int 32 t)
  c_LONGEST_BODY : ∃ t, mg "LONGEST_BODY" = some (.int 4 t)
  c_MOST_SIGNS : ∃ t, mg "MOST_SIGNS" = some (.int 16384 t)
  c_NOT_REFUSED : ∃ t, mg "NOT_REFUSED" = some (.int 0 t)
  c_NO_SIGN : ∃ t, mg "NO_SIGN" = some (.int (-1) t)
  c_NOTHING_READ_ANY_MORE : ∃ t, mg "NOTHING_READ_ANY_MORE" = some (.int (-2) t)
  c_TOO_MANY_SIGNS : ∃ t, mg "TOO_MANY_SIGNS" = some (.int (-3) t)
  c_NO_SUCH_TOKEN : ∃ t, mg "NO_SUCH_TOKEN" = some (.int (-4) t)
  a_BLANKS : mg "BLANKS" = some (.ref B.t_BLANKS)
  t_BLANKS : ∀ H, SqT K H B.t_BLANKS [.int 9, .int 10, .int 13, .int 32]
  a_NOT_BARE : mg "NOT_BARE" = some (.ref B.t_NOT_BARE)
  t_NOT_BARE : ∀ H, SqT K H B.t_NOT_BARE [.int 34, .int 38, .int 39, .int 60, .int 61, .int 62, .int 96]
  a_CALC : mg "CALC" = some (.ref B.t_CALC)
  t_CALC : ∀ H, SqT K H B.t_CALC [.int 99, .int 97, .int 108, .int 99]
  a_VERB : mg "VERB" = some (.ref B.t_VERB)
  t_VERB : ∀ H, SqT K H B.t_VERB [.int 118, .int 101, .int 114, .int 98]
  a_NAMED_BYTES : mg "NAMED_BYTES" = some (.ref B.d_NAMED_BYTES)
  d_NAMED_BYTES : KDT P w K B.d_NAMED_BYTES [([Sum.inl 97, Sum.inl 109, Sum.inl 112], .int 38), ([Sum.inl 108, Sum.inl 116], .int 60), ([Sum.inl 103, Sum.inl 116], .int 62), ([Sum.inl 113, Sum.inl 117, Sum.inl 111, Sum.inl 116], .int 34), ([Sum.inl 97, Sum.inl 112, Sum.inl 111, Sum.inl 115], .int 39)]
  a_MODES_BEHIND_REFERENCE : mg "MODES_BEHIND_REFERENCE" = some (.ref B.d_MODES_BEHIND_REFERENCE)
  d_MODES_BEHIND_REFERENCE : KD P w K B.d_MODES_BEHIND_REFERENCE [(Sum.inl 1, .int 0), (Sum.inl 2, .int 12), (Sum.inl 3, .int 13), (Sum.inl 4, .int 14)]
  a_SPOTS : mg "SPOTS" = some (.ref B.d_SPOTS)
  d_SPOTS : KD P w K B.d_SPOTS [(Sum.inl 0, .int 0), (Sum.inl 11, .int 4), (Sum.inl 12, .int 1), (Sum.inl 13, .int 2), (Sum.inl 14, .int 3), (Sum.inl 22, .int 5)]
  a_STEPS : mg "STEPS" = some (.ref B.d_STEPS)
  d_STEPS : KD P w K B.d_STEPS [(Sum.inl 0, .ref B.f_read_in_text), (Sum.inl 1, .ref B.f_read_in_reference), (Sum.inl 2, .ref B.f_read_in_reference), (Sum.inl 3, .ref B.f_read_in_reference), (Sum.inl 4, .ref B.f_read_in_reference), (Sum.inl 5, .ref B.f_read_behind_less), (Sum.inl 6, .ref B.f_read_in_open_tag_name), (Sum.inl 7, .ref B.f_read_behind_less_slash), (Sum.inl 8, .ref B.f_read_in_close_tag_name), (Sum.inl 9, .ref B.f_read_in_gap), (Sum.inl 10, .ref B.f_read_in_attribute_name), (Sum.inl 11, .ref B.f_read_behind_equals), (Sum.inl 12, .ref B.f_read_in_quotes), (Sum.inl 13, .ref B.f_read_in_apostrophes), (Sum.inl 14, .ref B.f_read_in_bare_value), (Sum.inl 15, .ref B.f_read_behind_part_of_tag), (Sum.inl 16, .ref B.f_read_behind_slash), (Sum.inl 17, .ref B.f_read_dash_ahead_of_comment), (Sum.inl 18, .ref B.f_read_dash_ahead_of_comment), (Sum.inl 19, .ref B.f_read_in_comment), (Sum.inl 20, .ref B.f_read_behind_one_dash), (Sum.inl 21, .ref B.f_read_behind_two_dashes), (Sum.inl 22, .ref B.f_read_in_raw_text), (Sum.inl 23, .ref B.f_read_in_raw_text_behind_less), (Sum.inl 24, .ref B.f_read_in_raw_close_tag)]
  a_REFERENCES : mg "REFERENCES" = some (.ref B.d_REFERENCES)
  d_REFERENCES : KD P w K B.d_REFERENCES [(Sum.inl 34, .ref B.r_34), (Sum.inl 38, .ref B.r_38), (Sum.inl 60, .ref B.r_60)]
  t_r_34 : PlainT K B.r_34 [.int 38, .int 113, .int 117, .int 111, .int 116, .int 59]
  t_r_38 : PlainT K B.r_38 [.int 38, .int 97, .int 109, .int 112, .int 59]
  t_r_60 : PlainT K B.r_60 [.int 38, .int 108, .int 116, .int 59]
  a_WRITERS : mg "WRITERS" = some (.ref B.d_WRITERS)
  d_WRITERS : KD P w K B.d_WRITERS [(Sum.inl 0, .ref B.f_write_run_of_text), (Sum.inl 1, .ref B.f_write_open_tag), (Sum.inl 2, .ref B.f_write_close_tag), (Sum.inl 3, .ref B.f_write_comment), (Sum.inl 4, .ref B.f_write_raw_text)]
  a_CALLS_ALONE : mg "CALLS_ALONE" = some (.ref B.d_CALLS_ALONE)
  d_CALLS_ALONE : KD P w K B.d_CALLS_ALONE [(Sum.inl 0, .ref B.f_begin), (Sum.inl 2, .ref B.f_end), (Sum.inl 3, .ref B.f_fault), (Sum.inl 4, .ref B.f_tokens), (Sum.inl 6, .ref B.f_state), (Sum.inl 7, .ref B.f_marks), (Sum.inl 8, .ref B.f_written)]
  a_CALLS_WITH_NUMBER : mg "CALLS_WITH_NUMBER" = some (.ref B.d_CALLS_WITH_NUMBER)
  d_CALLS_WITH_NUMBER : KD P w K B.d_CALLS_WITH_NUMBER [(Sum.inl 5, .ref B.f_token)]
  a_CALLS_WITH_SIGNS : mg "CALLS_WITH_SIGNS" = some (.ref B.d_CALLS_WITH_SIGNS)
  d_CALLS_WITH_SIGNS : KD P w K B.d_CALLS_WITH_SIGNS [(Sum.inl 1, .ref B.f_feed), (Sum.inl 9, .ref B.f_whole)]
  g_Token : mg "Token" = some (.ref B.C_Token)
  cl_Token : Cls K B.C_Token
  mk_Token : Mk K B.C_Token B.f_Token_init
  g_Reader : mg "Reader" = some (.ref B.C_Reader)
  cl_Reader : Cls K B.C_Reader
  mk_Reader : Mk K B.C_Reader B.f_Reader_init
  at_kind : NoAttr K B.C_Token "kind"
  at_place : NoAttr K B.C_Token "place"
  at_signs : NoAttr K B.C_Token "signs"
  at_attributes : NoAttr K B.C_Token "attributes"
  at_ended : NoAttr K B.C_Token "ended"
  ar_mode : NoAttr K B.C_Reader "mode"
  ar_read_count : NoAttr K B.C_Reader "read_count"
  ar_fault_kind : NoAttr K B.C_Reader "fault_kind"
  ar_fault_place : NoAttr K B.C_Reader "fault_place"
  ar_tokens : NoAttr K B.C_Reader "tokens"
  ar_token_place : NoAttr K B.C_Reader "token_place"
  ar_tag_name : NoAttr K B.C_Reader "tag_name"
  ar_attributes : NoAttr K B.C_Reader "attributes"
  ar_attribute_name : NoAttr K B.C_Reader "attribute_name"
  ar_body : NoAttr K B.C_Reader "body"
  ar_run : NoAttr K B.C_Reader "run"
  ar_marks : NoAttr K B.C_Reader "marks"
  f_is_sign : mg "is_sign" = some (.ref B.f_is_sign) ∧ ∃ fd, Fun K "is_sign" "is_sign" s_is_sign B.f_is_sign fd ∧ Binds K fd ["number"] []
  f_is_mark : mg "is_mark" = some (.ref B.f_is_mark) ∧ ∃ fd, Fun K "is_mark" "is_mark" s_is_mark B.f_is_mark fd ∧ Binds K fd ["sign"] []
  f_is_blank : mg "is_blank" = some (.ref B.f_is_blank) ∧ ∃ fd, Fun K "is_blank" "is_blank" s_is_blank B.f_is_blank fd ∧ Binds K fd ["sign"] []
  f_is_small_letter : mg "is_small_letter" = some (.ref B.f_is_small_letter) ∧ ∃ fd, Fun K "is_small_letter" "is_small_letter" s_is_small_letter B.f_is_small_letter fd ∧ Binds K fd ["sign"] []
  f_is_large_letter : mg "is_large_letter" = some (.ref B.f_is_large_letter) ∧ ∃ fd, Fun K "is_large_letter" "is_large_letter" s_is_large_letter B.f_is_large_letter fd ∧ Binds K fd ["sign"] []
  f_is_digit : mg "is_digit" = some (.ref B.f_is_digit) ∧ ∃ fd, Fun K "is_digit" "is_digit" s_is_digit B.f_is_digit fd ∧ Binds K fd ["sign"] []
  f_is_name_sign : mg "is_name_sign" = some (.ref B.f_is_name_sign) ∧ ∃ fd, Fun K "is_name_sign" "is_name_sign" s_is_name_sign B.f_is_name_sign fd ∧ Binds K fd ["sign"] []
  f_is_body_sign : mg "is_body_sign" = some (.ref B.f_is_body_sign) ∧ ∃ fd, Fun K "is_body_sign" "is_body_sign" s_is_body_sign B.f_is_body_sign fd ∧ Binds K fd ["sign"] []
  f_is_bare_sign : mg "is_bare_sign" = some (.ref B.f_is_bare_sign) ∧ ∃ fd, Fun K "is_bare_sign" "is_bare_sign" s_is_bare_sign B.f_is_bare_sign fd ∧ Binds K fd ["sign"] []
  f_Token_init : True ∧ ∃ fd, Fun K "__init__" "Token.__init__" s_Token_init B.f_Token_init fd ∧ Binds K fd ["self", "kind", "place", "signs", "attributes", "ended"] []
  f_Reader_init : True ∧ ∃ fd, Fun K "__init__" "Reader.__init__" s_Reader_init B.f_Reader_init fd ∧ Binds K fd ["self"] []
  f_Reader_renew : Meth K B.C_Reader "renew" B.f_Reader_renew ∧ ∃ fd, Fun K "renew" "Reader.renew" s_Reader_renew B.f_Reader_renew fd ∧ Binds K fd ["self"] []
  f_Reader_fail : Meth K B.C_Reader "fail" B.f_Reader_fail ∧ ∃ fd, Fun K "fail" "Reader.fail" s_Reader_fail B.f_Reader_fail fd ∧ Binds K fd ["self", "kind"] []
  f_Reader_add_token : Meth K B.C_Reader "add_token" B.f_Reader_add_token ∧ ∃ fd, Fun K "add_token" "Reader.add_token" s_Reader_add_token B.f_Reader_add_token fd ∧ Binds K fd ["self", "kind", "signs", "place_behind"] []
  f_Reader_end_run : Meth K B.C_Reader "end_run" B.f_Reader_end_run ∧ ∃ fd, Fun K "end_run" "Reader.end_run" s_Reader_end_run B.f_Reader_end_run fd ∧ Binds K fd ["self", "kind", "place_behind"] []
  f_Reader_end_attribute : Meth K B.C_Reader "end_attribute" B.f_Reader_end_attribute ∧ ∃ fd, Fun K "end_attribute" "Reader.end_attribute" s_Reader_end_attribute B.f_Reader_end_attribute fd ∧ Binds K fd ["self"] []
  f_Reader_add_open_tag : Meth K B.C_Reader "add_open_tag" B.f_Reader_add_open_tag ∧ ∃ fd, Fun K "add_open_tag" "Reader.add_open_tag" s_Reader_add_open_tag B.f_Reader_add_open_tag fd ∧ Binds K fd ["self", "ended"] []
  f_Reader_end_tag : Meth K B.C_Reader "end_tag" B.f_Reader_end_tag ∧ ∃ fd, Fun K "end_tag" "Reader.end_tag" s_Reader_end_tag B.f_Reader_end_tag fd ∧ Binds K fd ["self"] []
  f_Reader_end_open_tag : Meth K B.C_Reader "end_open_tag" B.f_Reader_end_open_tag ∧ ∃ fd, Fun K "end_open_tag" "Reader.end_open_tag" s_Reader_end_open_tag B.f_Reader_end_open_tag fd ∧ Binds K fd ["self"] []
  f_Reader_end_ended_tag : Meth K B.C_Reader "end_ended_tag" B.f_Reader_end_ended_tag ∧ ∃ fd, Fun K "end_ended_tag" "Reader.end_ended_tag" s_Reader_end_ended_tag B.f_Reader_end_ended_tag fd ∧ Binds K fd ["self"] []
  f_digit_value : mg "digit_value" = some (.ref B.f_digit_value) ∧ ∃ fd, Fun K "digit_value" "digit_value" s_digit_value B.f_digit_value fd ∧ Binds K fd ["sign"] []
  f_number_byte : mg "number_byte" = some (.ref B.f_number_byte) ∧ ∃ fd, Fun K "number_byte" "number_byte" s_number_byte B.f_number_byte fd ∧ Binds K fd ["digits", "base", "most_digits"] []
  f_reference_byte : mg "reference_byte" = some (.ref B.f_reference_byte) ∧ ∃ fd, Fun K "reference_byte" "reference_byte" s_reference_byte B.f_reference_byte fd ∧ Binds K fd ["body"] []
  f_read_in_text : mg "read_in_text" = some (.ref B.f_read_in_text) ∧ ∃ fd, Fun K "read_in_text" "read_in_text" s_read_in_text B.f_read_in_text fd ∧ Binds K fd ["reader", "sign"] []
  f_end_run_of_text : mg "end_run_of_text" = some (.ref B.f_end_run_of_text) ∧ ∃ fd, Fun K "end_run_of_text" "end_run_of_text" s_end_run_of_text B.f_end_run_of_text fd ∧ Binds K fd ["reader"] []
  f_read_in_reference : mg "read_in_reference" = some (.ref B.f_read_in_reference) ∧ ∃ fd, Fun K "read_in_reference" "read_in_reference" s_read_in_reference B.f_read_in_reference fd ∧ Binds K fd ["reader", "sign"] []
  f_end_reference : mg "end_reference" = some (.ref B.f_end_reference) ∧ ∃ fd, Fun K "end_reference" "end_reference" s_end_reference B.f_end_reference fd ∧ Binds K fd ["reader"] []
  f_read_behind_less : mg "read_behind_less" = some (.ref B.f_read_behind_less) ∧ ∃ fd, Fun K "read_behind_less" "read_behind_less" s_read_behind_less B.f_read_behind_less fd ∧ Binds K fd ["reader", "sign"] []
  f_add_to_name : mg "add_to_name" = some (.ref B.f_add_to_name) ∧ ∃ fd, Fun K "add_to_name" "add_to_name" s_add_to_name B.f_add_to_name fd ∧ Binds K fd ["reader", "name", "sign"] []
  f_read_in_open_tag_name : mg "read_in_open_tag_name" = some (.ref B.f_read_in_open_tag_name) ∧ ∃ fd, Fun K "read_in_open_tag_name" "read_in_open_tag_name" s_read_in_open_tag_name B.f_read_in_open_tag_name fd ∧ Binds K fd ["reader", "sign"] []
  f_read_behind_part_of_tag : mg "read_behind_part_of_tag" = some (.ref B.f_read_behind_part_of_tag) ∧ ∃ fd, Fun K "read_behind_part_of_tag" "read_behind_part_of_tag" s_read_behind_part_of_tag B.f_read_behind_part_of_tag fd ∧ Binds K fd ["reader", "sign"] []
  f_read_behind_less_slash : mg "read_behind_less_slash" = some (.ref B.f_read_behind_less_slash) ∧ ∃ fd, Fun K "read_behind_less_slash" "read_behind_less_slash" s_read_behind_less_slash B.f_read_behind_less_slash fd ∧ Binds K fd ["reader", "sign"] []
  f_read_in_close_tag_name : mg "read_in_close_tag_name" = some (.ref B.f_read_in_close_tag_name) ∧ ∃ fd, Fun K "read_in_close_tag_name" "read_in_close_tag_name" s_read_in_close_tag_name B.f_read_in_close_tag_name fd ∧ Binds K fd ["reader", "sign"] []
  f_end_close_tag : mg "end_close_tag" = some (.ref B.f_end_close_tag) ∧ ∃ fd, Fun K "end_close_tag" "end_close_tag" s_end_close_tag B.f_end_close_tag fd ∧ Binds K fd ["reader"] []
  f_read_in_gap : mg "read_in_gap" = some (.ref B.f_read_in_gap) ∧ ∃ fd, Fun K "read_in_gap" "read_in_gap" s_read_in_gap B.f_read_in_gap fd ∧ Binds K fd ["reader", "sign"] []
  f_read_in_attribute_name : mg "read_in_attribute_name" = some (.ref B.f_read_in_attribute_name) ∧ ∃ fd, Fun K "read_in_attribute_name" "read_in_attribute_name" s_read_in_attribute_name B.f_read_in_attribute_name fd ∧ Binds K fd ["reader", "sign"] []
  f_read_behind_equals : mg "read_behind_equals" = some (.ref B.f_read_behind_equals) ∧ ∃ fd, Fun K "read_behind_equals" "read_behind_equals" s_read_behind_equals B.f_read_behind_equals fd ∧ Binds K fd ["reader", "sign"] []
  f_read_in_quotes : mg "read_in_quotes" = some (.ref B.f_read_in_quotes) ∧ ∃ fd, Fun K "read_in_quotes" "read_in_quotes" s_read_in_quotes B.f_read_in_quotes fd ∧ Binds K fd ["reader", "sign"] []
  f_read_in_apostrophes : mg "read_in_apostrophes" = some (.ref B.f_read_in_apostrophes) ∧ ∃ fd, Fun K "read_in_apostrophes" "read_in_apostrophes" s_read_in_apostrophes B.f_read_in_apostrophes fd ∧ Binds K fd ["reader", "sign"] []
  f_read_between : mg "read_between" = some (.ref B.f_read_between) ∧ ∃ fd, Fun K "read_between" "read_between" s_read_between B.f_read_between fd ∧ Binds K fd ["reader", "sign", "closing", "reference_mode"] []
  f_read_in_bare_value : mg "read_in_bare_value" = some (.ref B.f_read_in_bare_value) ∧ ∃ fd, Fun K "read_in_bare_value" "read_in_bare_value" s_read_in_bare_value B.f_read_in_bare_value fd ∧ Binds K fd ["reader", "sign"] []
  f_read_behind_slash : mg "read_behind_slash" = some (.ref B.f_read_behind_slash) ∧ ∃ fd, Fun K "read_behind_slash" "read_behind_slash" s_read_behind_slash B.f_read_behind_slash fd ∧ Binds K fd ["reader", "sign"] []
  f_read_dash_ahead_of_comment : mg "read_dash_ahead_of_comment" = some (.ref B.f_read_dash_ahead_of_comment) ∧ ∃ fd, Fun K "read_dash_ahead_of_comment" "read_dash_ahead_of_comment" s_read_dash_ahead_of_comment B.f_read_dash_ahead_of_comment fd ∧ Binds K fd ["reader", "sign"] []
  f_read_in_comment : mg "read_in_comment" = some (.ref B.f_read_in_comment) ∧ ∃ fd, Fun K "read_in_comment" "read_in_comment" s_read_in_comment B.f_read_in_comment fd ∧ Binds K fd ["reader", "sign"] []
  f_read_behind_one_dash : mg "read_behind_one_dash" = some (.ref B.f_read_behind_one_dash) ∧ ∃ fd, Fun K "read_behind_one_dash" "read_behind_one_dash" s_read_behind_one_dash B.f_read_behind_one_dash fd ∧ Binds K fd ["reader", "sign"] []
  f_read_behind_two_dashes : mg "read_behind_two_dashes" = some (.ref B.f_read_behind_two_dashes) ∧ ∃ fd, Fun K "read_behind_two_dashes" "read_behind_two_dashes" s_read_behind_two_dashes B.f_read_behind_two_dashes fd ∧ Binds K fd ["reader", "sign"] []
  f_read_in_raw_text : mg "read_in_raw_text" = some (.ref B.f_read_in_raw_text) ∧ ∃ fd, Fun K "read_in_raw_text" "read_in_raw_text" s_read_in_raw_text B.f_read_in_raw_text fd ∧ Binds K fd ["reader", "sign"] []
  f_read_in_raw_text_behind_less : mg "read_in_raw_text_behind_less" = some (.ref B.f_read_in_raw_text_behind_less) ∧ ∃ fd, Fun K "read_in_raw_text_behind_less" "read_in_raw_text_behind_less" s_read_in_raw_text_behind_less B.f_read_in_raw_text_behind_less fd ∧ Binds K fd ["reader", "sign"] []
  f_read_in_raw_close_tag : mg "read_in_raw_close_tag" = some (.ref B.f_read_in_raw_close_tag) ∧ ∃ fd, Fun K "read_in_raw_close_tag" "read_in_raw_close_tag" s_read_in_raw_close_tag B.f_read_in_raw_close_tag fd ∧ Binds K fd ["reader", "sign"] []
  f_end_raw_element : mg "end_raw_element" = some (.ref B.f_end_raw_element) ∧ ∃ fd, Fun K "end_raw_element" "end_raw_element" s_end_raw_element B.f_end_raw_element fd ∧ Binds K fd ["reader"] []
  f_takes_marks : mg "takes_marks" = some (.ref B.f_takes_marks) ∧ ∃ fd, Fun K "takes_marks" "takes_marks" s_takes_marks B.f_takes_marks fd ∧ Binds K fd ["reader"] []
  f_read_sign : mg "read_sign" = some (.ref B.f_read_sign) ∧ ∃ fd, Fun K "read_sign" "read_sign" s_read_sign B.f_read_sign fd ∧ Binds K fd ["reader", "sign"] []
  f_read_signs : mg "read_signs" = some (.ref B.f_read_signs) ∧ ∃ fd, Fun K "read_signs" "read_signs" s_read_signs B.f_read_signs fd ∧ Binds K fd ["reader", "signs"] []
  f_read_end : mg "read_end" = some (.ref B.f_read_end) ∧ ∃ fd, Fun K "read_end" "read_end" s_read_end B.f_read_end fd ∧ Binds K fd ["reader"] []
  f_with_references : mg "with_references" = some (.ref B.f_with_references) ∧ ∃ fd, Fun K "with_references" "with_references" s_with_references B.f_with_references fd ∧ Binds K fd ["signs", "replaced"] []
  f_write_run_of_text : mg "write_run_of_text" = some (.ref B.f_write_run_of_text) ∧ ∃ fd, Fun K "write_run_of_text" "write_run_of_text" s_write_run_of_text B.f_write_run_of_text fd ∧ Binds K fd ["token"] []
  f_write_attribute : mg "write_attribute" = some (.ref B.f_write_attribute) ∧ ∃ fd, Fun K "write_attribute" "write_attribute" s_write_attribute B.f_write_attribute fd ∧ Binds K fd ["name", "value"] []
  f_write_open_tag : mg "write_open_tag" = some (.ref B.f_write_open_tag) ∧ ∃ fd, Fun K "write_open_tag" "write_open_tag" s_write_open_tag B.f_write_open_tag fd ∧ Binds K fd ["token"] []
  f_write_close_tag : mg "write_close_tag" = some (.ref B.f_write_close_tag) ∧ ∃ fd, Fun K "write_close_tag" "write_close_tag" s_write_close_tag B.f_write_close_tag fd ∧ Binds K fd ["token"] []
  f_write_comment : mg "write_comment" = some (.ref B.f_write_comment) ∧ ∃ fd, Fun K "write_comment" "write_comment" s_write_comment B.f_write_comment fd ∧ Binds K fd ["token"] []
  f_write_raw_text : mg "write_raw_text" = some (.ref B.f_write_raw_text) ∧ ∃ fd, Fun K "write_raw_text" "write_raw_text" s_write_raw_text B.f_write_raw_text fd ∧ Binds K fd ["token"] []
  f_write_tokens : mg "write_tokens" = some (.ref B.f_write_tokens) ∧ ∃ fd, Fun K "write_tokens" "write_tokens" s_write_tokens B.f_write_tokens fd ∧ Binds K fd ["tokens"] []
  f_reads_no_more : mg "reads_no_more" = some (.ref B.f_reads_no_more) ∧ ∃ fd, Fun K "reads_no_more" "reads_no_more" s_reads_no_more B.f_reads_no_more fd ∧ Binds K fd ["reader"] []
  f_fault_now : mg "fault_now" = some (.ref B.f_fault_now) ∧ ∃ fd, Fun K "fault_now" "fault_now" s_fault_now B.f_fault_now fd ∧ Binds K fd ["reader"] []
  f_refusal_of : mg "refusal_of" = some (.ref B.f_refusal_of) ∧ ∃ fd, Fun K "refusal_of" "refusal_of" s_refusal_of B.f_refusal_of fd ∧ Binds K fd ["signs", "read_before"] []
  f_with_length : mg "with_length" = some (.ref B.f_with_length) ∧ ∃ fd, Fun K "with_length" "with_length" s_with_length B.f_with_length fd ∧ Binds K fd ["signs"] []
  f_begin : mg "begin" = some (.ref B.f_begin) ∧ ∃ fd, Fun K "begin" "begin" s_begin B.f_begin fd ∧ Binds K fd ["reader"] []
  f_feed : mg "feed" = some (.ref B.f_feed) ∧ ∃ fd, Fun K "feed" "feed" s_feed B.f_feed fd ∧ Binds K fd ["reader", "signs"] []
  f_end : mg "end" = some (.ref B.f_end) ∧ ∃ fd, Fun K "end" "end" s_end B.f_end fd ∧ Binds K fd ["reader"] []
  f_fault : mg "fault" = some (.ref B.f_fault) ∧ ∃ fd, Fun K "fault" "fault" s_fault B.f_fault fd ∧ Binds K fd ["reader"] []
  f_tokens : mg "tokens" = some (.ref B.f_tokens) ∧ ∃ fd, Fun K "tokens" "tokens" s_tokens B.f_tokens fd ∧ Binds K fd ["reader"] []
  f_parts_of_open_tag : mg "parts_of_open_tag" = some (.ref B.f_parts_of_open_tag) ∧ ∃ fd, Fun K "parts_of_open_tag" "parts_of_open_tag" s_parts_of_open_tag B.f_parts_of_open_tag fd ∧ Binds K fd ["tag"] []
  f_token : mg "token" = some (.ref B.f_token) ∧ ∃ fd, Fun K "token" "token" s_token B.f_token fd ∧ Binds K fd ["reader", "i"] []
  f_state : mg "state" = some (.ref B.f_state) ∧ ∃ fd, Fun K "state" "state" s_state B.f_state fd ∧ Binds K fd ["reader"] []
  f_marks : mg "marks" = some (.ref B.f_marks) ∧ ∃ fd, Fun K "marks" "marks" s_marks B.f_marks fd ∧ Binds K fd ["reader"] []
  f_written : mg "written" = some (.ref B.f_written) ∧ ∃ fd, Fun K "written" "written" s_written B.f_written fd ∧ Binds K fd ["reader"] []
  f_whole : mg "whole" = some (.ref B.f_whole) ∧ ∃ fd, Fun K "whole" "whole" s_whole B.f_whole fd ∧ Binds K fd ["reader", "signs"] []
  f_length_of_call : mg "length_of_call" = some (.ref B.f_length_of_call) ∧ ∃ fd, Fun K "length_of_call" "length_of_call" s_length_of_call B.f_length_of_call fd ∧ Binds K fd ["calls", "position"] []
  f_answer_of : mg "answer_of" = some (.ref B.f_answer_of) ∧ ∃ fd, Fun K "answer_of" "answer_of" s_answer_of B.f_answer_of fd ∧ Binds K fd ["reader", "call"] []
  f_answers : mg "answers" = some (.ref B.f_answers) ∧ ∃ fd, Fun K "answers" "answers" s_answers B.f_answers fd ∧ Binds K fd ["calls"] []
def DefOk (P : Program) (w : World) (K : PySem.W.Frag) (mg : Str → Option Value) (base : Heap) (x : Str) (f : Addr) (k : Nat) (ps : List Str) (sp : Sp) : Prop :=
  mg x = some (.ref f) ∧ PySem.W.keepIn K (.ref f) = true ∧ ∃ fd, Binds K fd ps [] ∧ FnOk P w K mg base CX0 k f fd ps sp
def MethOk (P : Program) (w : World) (K : PySem.W.Frag) (mg : Str → Option Value) (base : Heap) (C : Addr) (m : Str) (f : Addr) (k : Nat) (ps : List Str) (sp : Sp) : Prop :=
  Meth K C m f ∧ ∃ fd, Binds K fd ps [] ∧ FnOk P w K mg base CX0 k f fd ps sp
def InitOk (P : Program) (w : World) (K : PySem.W.Frag) (mg : Str → Option Value) (base : Heap) (C f : Addr) (k : Nat) (ps : List Str) (sp : Sp) : Prop :=
  Mk K C f ∧ ∃ fd, Binds K fd ps [] ∧ FnOk P w K mg base CX0 k f fd ps sp
section
variable {P : Program} {w : World} {K : PySem.W.Frag} {mg : Str → Option Value} {base : Heap} {x m : Str} {C f : Addr} {k : Nat} {ps N : List Str} {sp : Sp} {st : Stmt} {q n : Str}
theorem mkDef (R : mg x = some (.ref f) ∧ ∃ fd, Fun K x x st f fd ∧ Binds K fd ps []) (S : FnScope N ps (defScope st)) (len : ∀ vs H Q E, sp vs H Q E → vs.length = ps.length)
    (hbody : ∀ (cdv : Value) (A : Around) (outer : List Env) (s : Shared) (H : Hp) (vs : List V) (Q : VK) (E : XK), Room k (A.deeper (envOfC x (defScope st) s.heap.objs.size f cdv)) → sp vs H Q E →
      ∃ t, PSs (cxOf CX0 P w K mg base N x (defScope st) f cdv A outer s H E).nox (defBody st) t ∧ t { nx := fun _ H' => Q .non H', rt := Q } (start N vs) H) : DefOk P w K mg base x f (k + 1) ps sp := by
  obtain ⟨h1, fd, F, b⟩ := R
  exact ⟨h1, F.kp, fd, b, F.ok S len hbody⟩
theorem mkMeth (R : Meth K C n f ∧ ∃ fd, Fun K n q st f fd ∧ Binds K fd ps []) (S : FnScope N ps (defScope st)) (len : ∀ vs H Q E, sp vs H Q E → vs.length = ps.length)
    (hbody : ∀ (cdv : Value) (A : Around) (outer : List Env) (s : Shared) (H : Hp) (vs : List V) (Q : VK) (E : XK), Room k (A.deeper (envOfC q (defScope st) s.heap.objs.size f cdv)) → sp vs H Q E →
      ∃ t, PSs (cxOf CX0 P w K mg base N q (defScope st) f cdv A outer s H E).nox (defBody st) t ∧ t { nx := fun _ H' => Q .non H', rt := Q } (start N vs) H) : MethOk P w K mg base C n f (k + 1) ps sp := by
  obtain ⟨h1, fd, F, b⟩ := R
  exact ⟨h1, fd, b, F.ok S len hbody⟩
theorem mkInit (M : Mk K C f) (R : True ∧ ∃ fd, Fun K n q st f fd ∧ Binds K fd ps []) (S : FnScope N ps (defScope st)) (len : ∀ vs H Q E, sp vs H Q E → vs.length = ps.length)
    (hbody : ∀ (cdv : Value) (A : Around) (outer : List Env) (s : Shared) (H : Hp) (vs : List V) (Q : VK) (E : XK), Room k (A.deeper (envOfC q (defScope st) s.heap.objs.size f cdv)) → sp vs H Q E →
      ∃ t, PSs (cxOf CX0 P w K mg base N q (defScope st) f cdv A outer s H E).nox (defBody st) t ∧ t { nx := fun _ H' => Q .non H', rt := Q } (start N vs) H) : InitOk P w K mg base C f (k + 1) ps sp := by
  obtain ⟨_, fd, F, b⟩ := R
  exact ⟨M, fd, b, F.ok S len hbody⟩
end
section
variable {X : Cx} {x m : Str} {C f : Addr} {k : Nat} {ps : List Str} {sp : Sp} {e o : Expr} {es : List Expr} {t : TA} {ta : TE} {p pos apos : Pos}
theorem pgc {i : Int} (h : ∃ t, X.mg x = some (.int i t)) (hg : Gl X x := by rfl) (hd : (x == ("__debug__" : Str)) = false := by decide) : PE X (.Name x pos) (tC (.int i)) := by
  obtain ⟨t, h⟩ := h
  exact pe_glob hg h ⟨t, rfl⟩ hd
theorem pga {a : Addr} (h : X.mg x = some (.ref a)) (hg : Gl X x := by rfl) (hd : (x == ("__debug__" : Str)) = false := by decide) : PE X (.Name x pos) (tC (.ref a)) := pe_glob hg h rfl hd
theorem pcall (D : DefOk X.prog X.w X.K X.mg X.base x f k ps sp) (hr : Room k X.A) (hg : Gl X x) (ha : PA X (e :: es) t) (hdb : (x == ("__debug__" : Str)) = false := by decide)
    (he : starEach (e :: es) X.env = (false, eval e X.env) :: starEach es X.env := by rfl) (hpl : (backTo pos (starEach es X.env)).any (·.1) = false := by rfl) : PE X (.Call (.Name x p) (e :: es) [] pos) (tCall sp [] E0 t) := by
  obtain ⟨hm, hk, fd, hb, F⟩ := D
  exact pe_call F hr hg hm hk hb .nil pass0 ha hdb he hpl
theorem pmeth {pl : Sem Bool} (ho : PE X o ta) (c : Cls X.K C) (D : MethOk X.prog X.w X.K X.mg X.base C m f k ps sp) (hr : Room k X.A) (ha : PA X (e :: es) t)
    (hst : starEach (e :: es) X.env = (false, eval e X.env) :: starEach es X.env := by rfl) (hpl : (backTo pos (starEach es X.env)).any (·.1) = false := by rfl)
    (ht : eval (.Call (.Attribute o m apos) (e :: es) [] pos) X.env = (do
      let ov ← eval o X.env
      standAt apos.atName
      let (f, first) ← holding [ov] (getMethod ov m pl)
      callWith pos f first (backTo pos (starEach (e :: es) X.env)) (backToKw pos (keywordEach [] X.env))) := by rfl) :
    PE X (.Call (.Attribute o m apos) (e :: es) [] pos) (tMeth C m sp [] E0 ta t) := by
  obtain ⟨hm, fd, hb, F⟩ := D
  exact pe_meth ho c hm F hr hb .nil pass0 ha hst hpl ht
theorem pmeth0 {pl : Sem Bool} (ho : PE X o ta) (c : Cls X.K C) (D : MethOk X.prog X.w X.K X.mg X.base C m f k ps sp) (hr : Room k X.A)
    (ht : eval (.Call (.Attribute o m apos) [] [] pos) X.env = (do
      let ov ← eval o X.env
      standAt apos.atName
      let (f, first) ← holding [ov] (getMethod ov m pl)
      callWith pos f first (backTo pos (starEach [] X.env)) (backToKw pos (keywordEach [] X.env))) := by rfl) :
    PE X (.Call (.Attribute o m apos) [] [] pos) (tMeth C m sp [] E0 ta tNil) := by
  obtain ⟨hm, fd, hb, F⟩ := D
  exact pe_meth0 ho c hm F hr hb .nil pass0 ht
theorem pmake (D : InitOk X.prog X.w X.K X.mg X.base C f k ps sp) (hr : Room (k + 1) X.A) (hg : Gl X x) (hm : X.mg x = some (.ref C)) (ha : PA X (e :: es) t) (hdb : (x == ("__debug__" : Str)) = false := by decide)
    (he : starEach (e :: es) X.env = (false, eval e X.env) :: starEach es X.env := by rfl) (hpl : (backTo pos (starEach es X.env)).any (·.1) = false := by rfl) : PE X (.Call (.Name x p) (e :: es) [] pos) (tMake C sp [] E0 t) := by
  obtain ⟨M, fd, hb, F⟩ := D
  exact pe_make M F hr hg hm hb .nil pass0 ha hdb he hpl
theorem pmake0 (D : InitOk X.prog X.w X.K X.mg X.base C f k ps sp) (hr : Room (k + 1) X.A) (hg : Gl X x) (hm : X.mg x = some (.ref C)) (hdb : (x == ("__debug__" : Str)) = false := by decide) : PE X (.Call (.Name x p) [] [] pos) (tMake C sp [] E0 tNil) := by
  obtain ⟨M, fd, hb, F⟩ := D
  exact pe_make0 M F hr hg hm hb .nil pass0 hdb
end
theorem units128 {k : Nat} {A : Around} (r : Room k A) : A.units + 128 < cLine := by have := r.un; omega
theorem boot_list : bootBuiltins "list" = some (.type "list") := by decide +kernel
theorem boot_tuple : bootBuiltins "tuple" = some (.type "tuple") := by decide +kernel
theorem boot_all : bootBuiltins "all" = some (.builtin "all") := by decide +kernel
end Mr
end
section
set_option Elab.async false
set_option linter.all false
set_option maxRecDepth 100000
set_option maxHeartbeats 2000000
namespace Mr
open PySem PySem.Spec PyProof.Rows L2
open Vaesca (Text Token Reader Mode Home)
def spB (g : Nat → Bool) : Sp := fun vs H Q _ => ∃ c : Nat, vs = [.int (c : Int)] ∧ Q (.bl (g c)) H
theorem spB_len {g : Nat → Bool} : ∀ vs H Q E, spB g vs H Q E → vs.length = 1 := by
  rintro vs H Q E ⟨c, rfl, _⟩
  rfl
def spZ (g : Int → Bool) : Sp := fun vs H Q _ => ∃ c : Int, vs = [.int c] ∧ Q (.bl (g c)) H
theorem spZ_len {g : Int → Bool} : ∀ vs H Q E, spZ g vs H Q E → vs.length = 1 := by
  rintro vs H Q E ⟨c, rfl, _⟩
  rfl
theorem chain_bl {lo hi z : Int} {Q : VK} {H : Hp} (h : Q (.bl (decide (lo ≤ z) && decide (z ≤ hi))) H) :
    ∃ k, V.bl (decide (lo ≤ z)) = .bl k ∧ (if k = true then (∃ i j, V.int z = .int i ∧ V.int hi = .int j ∧ Q (.bl (decide (i ≤ j))) H) else Q (.bl false) H) := by
  refine ⟨_, rfl, ?_⟩
  by_cases e : lo ≤ z
  · rw [decide_eq_true e] at h ⊢
    exact iteT ⟨_, _, rfl, rfl, h⟩
  · rw [decide_eq_false e] at h ⊢
    exact iteF h
theorem dec_le (a c : Nat) : decide ((a : Int) ≤ (c : Int)) = decide (a ≤ c) := by
  by_cases h : a ≤ c
  · rw [decide_eq_true h, decide_eq_true (Int.ofNat_le.mpr h)]
  · rw [decide_eq_false h, decide_eq_false (fun z => h (Int.ofNat_le.mp z))]
theorem rng_eq (a b c : Nat) : (decide (a ≤ c) && decide (c ≤ b)) = (decide ((a : Int) ≤ (c : Int)) && decide ((c : Int) ≤ (b : Int))) := by rw [dec_le, dec_le]
theorem dec_eq (a c : Nat) : decide (V.int (c : Int) = V.int (a : Int)) = (c == a) := by
  rw [dec_int]
  by_cases h : c = a
  · subst h; simp
  · have h' : ¬ ((c : Int) = (a : Int)) := fun z => h (Int.ofNat.inj z)
    rw [beq_eq_false_iff_ne.mpr h, beq_eq_false_iff_ne.mpr h']
theorem inV_nat (c : Nat) : ∀ l : List Nat, inV (.int (c : Int)) (l.map fun (n : Nat) => V.int (n : Int)) = l.contains c
  | [] => rfl
  | a :: l => by
    show (eqV (.int (a : Int)) (.int (c : Int)) || inV (.int (c : Int)) (l.map fun (n : Nat) => V.int (n : Int))) = _
    rw [inV_nat c l, List.contains_cons]
    have e : eqV (.int (a : Int)) (.int (c : Int)) = (c == a) := by
      show ((a : Int) == (c : Int)) = _
      by_cases h : c = a
      · subst h; simp
      · have h' : ¬ ((a : Int) = (c : Int)) := fun z => h (Int.ofNat.inj z).symm
        rw [beq_eq_false_iff_ne.mpr h, beq_eq_false_iff_ne.mpr h']
    rw [e]
section
variable {P : Program} {w : World} {K : PySem.W.Frag} {mg : Str → Option Value} {base : Heap} {B : Adr}
theorem D_is_sign (T : Tx P w K mg B) : DefOk P w K mg base "is_sign" B.f_is_sign 1 ["number"] (spZ Vaesca.isSign) := by
  refine mkDef T.f_is_sign sc_is_sign spZ_len fun cdv A outer s H vs Q E hr h => ?_
  obtain ⟨c, rfl, k⟩ := h
  refine ⟨_, (pss_one (ps_ret (pe_chain op_le op_le pe_int (pv 0) pe_int))), ?_⟩
  exact ⟨_, rfl, _, _, rfl, rfl, chain_bl k⟩
theorem D_is_small_letter (T : Tx P w K mg B) : DefOk P w K mg base "is_small_letter" B.f_is_small_letter 1 ["sign"] (spB Vaesca.isSmall) := by
  refine mkDef T.f_is_small_letter sc_is_small_letter spB_len fun cdv A outer s H vs Q E hr h => ?_
  obtain ⟨c, rfl, k⟩ := h
  refine ⟨_, (pss_one (ps_ret (pe_chain op_le op_le pe_int (pv 0) pe_int))), ?_⟩
  refine ⟨_, rfl, _, _, rfl, rfl, chain_bl ?_⟩
  rw [show Vaesca.isSmall c = _ from rng_eq 97 122 c] at k
  exact k
theorem D_is_large_letter (T : Tx P w K mg B) : DefOk P w K mg base "is_large_letter" B.f_is_large_letter 1 ["sign"] (spB Vaesca.isGreat) := by
  refine mkDef T.f_is_large_letter sc_is_large_letter spB_len fun cdv A outer s H vs Q E hr h => ?_
  obtain ⟨c, rfl, k⟩ := h
  refine ⟨_, (pss_one (ps_ret (pe_chain op_le op_le pe_int (pv 0) pe_int))), ?_⟩
  refine ⟨_, rfl, _, _, rfl, rfl, chain_bl ?_⟩
  rw [show Vaesca.isGreat c = _ from rng_eq 65 90 c] at k
  exact k
theorem D_is_digit (T : Tx P w K mg B) : DefOk P w K mg base "is_digit" B.f_is_digit 1 ["sign"] (spB Vaesca.isDigit) := by
  refine mkDef T.f_is_digit sc_is_digit spB_len fun cdv A outer s H vs Q E hr h => ?_
  obtain ⟨c, rfl, k⟩ := h
  refine ⟨_, (pss_one (ps_ret (pe_chain op_le op_le pe_int (pv 0) pe_int))), ?_⟩
  refine ⟨_, rfl, _, _, rfl, rfl, chain_bl ?_⟩
  rw [show Vaesca.isDigit c = _ from rng_eq 48 57 c] at k
  exact k
theorem D_is_mark (T : Tx P w K mg B) : DefOk P w K mg base "is_mark" B.f_is_mark 1 ["sign"] (spB Vaesca.isMark) := by
  refine mkDef T.f_is_mark sc_is_mark spB_len fun cdv A outer s H vs Q E hr h => ?_
  obtain ⟨c, rfl, k⟩ := h
  refine ⟨_, (pss_one (ps_ret (pe_cmpR op_ge (pv 0) pe_int (nomark _)))), ?_⟩
  refine ⟨_, rfl, _, _, rfl, rfl, ?_⟩
  rw [show Vaesca.isMark c = _ from (dec_le 256 c).symm] at k
  exact k
theorem D_is_blank (T : Tx P w K mg B) : DefOk P w K mg base "is_blank" B.f_is_blank 1 ["sign"] (spB Vaesca.isBlank) := by
  refine mkDef T.f_is_blank sc_is_blank spB_len fun cdv A outer s H vs Q E hr h => ?_
  obtain ⟨c, rfl, k⟩ := h
  refine ⟨_, (pss_one (ps_ret (pe_cmpR op_in_seq (pv 0) (pga T.a_BLANKS) rfl))), ?_⟩
  refine ⟨_, rfl, B.t_BLANKS, _, rfl, .inr (T.t_BLANKS H), rfl, rfl, ?_⟩
  have e : Vaesca.isBlank c = [9, 10, 13, 32].contains c := by
    simp only [Vaesca.isBlank, List.contains_cons, List.contains_nil, Bool.or_assoc, Bool.or_false]
  rw [e, ← inV_nat] at k
  exact k
theorem D_is_name_sign (T : Tx P w K mg B) : DefOk P w K mg base "is_name_sign" B.f_is_name_sign 2 ["sign"] (spB Vaesca.isNameSign) := by
  have D_is_small_letter := D_is_small_letter (base := base) T
  have D_is_digit := D_is_digit (base := base) T
  refine mkDef T.f_is_name_sign sc_is_name_sign spB_len fun cdv A outer s H vs Q E hr h => ?_
  obtain ⟨c, rfl, k⟩ := h
  refine ⟨_, (pss_one (ps_ret (pe_or (pcall D_is_small_letter (hr.mono (by decide)) rfl (pa_cons (pv 0) pa_nil)) (pe_or (pcall D_is_digit (hr.mono (by decide)) rfl (pa_cons (pv 0) pa_nil)) (pe_one (pe_cmpR op_eq (pv 0) (pgc T.c_DASH) (nomark _))))))), ?_⟩
  refine ⟨_, rfl, c, rfl, _, rfl, ?_⟩
  rw [show Vaesca.isNameSign c = (Vaesca.isSmall c || Vaesca.isDigit c || c == 45) from rfl] at k
  cases e1 : Vaesca.isSmall c with
  | true => rw [e1] at k; exact iteT k
  | false =>
    rw [e1] at k
    refine iteF ⟨_, rfl, c, rfl, _, rfl, ?_⟩
    cases e2 : Vaesca.isDigit c with
    | true => rw [e2] at k; exact iteT k
    | false =>
      rw [e2] at k
      refine iteF ⟨_, rfl, rfl, ?_⟩
      have q := dec_eq 45 c
      rw [show (c == 45) = _ from q.symm] at k
      exact k
theorem D_is_body_sign (T : Tx P w K mg B) : DefOk P w K mg base "is_body_sign" B.f_is_body_sign 2 ["sign"] (spB fun c => Vaesca.isSmall c || Vaesca.isGreat c || Vaesca.isDigit c || c == 35) := by
  have D_is_small_letter := D_is_small_letter (base := base) T
  have D_is_large_letter := D_is_large_letter (base := base) T
  have D_is_digit := D_is_digit (base := base) T
  refine mkDef T.f_is_body_sign sc_is_body_sign spB_len fun cdv A outer s H vs Q E hr h => ?_
  obtain ⟨c, rfl, k⟩ := h
  refine ⟨_, (pss_one (ps_ret (pe_or (pcall D_is_small_letter (hr.mono (by decide)) rfl (pa_cons (pv 0) pa_nil)) (pe_or (pcall D_is_large_letter (hr.mono (by decide)) rfl (pa_cons (pv 0) pa_nil)) (pe_or (pcall D_is_digit (hr.mono (by decide)) rfl (pa_cons (pv 0) pa_nil)) (pe_one (pe_cmpR op_eq (pv 0) (pgc T.c_NUMBER_SIGN) (nomark _)))))))), ?_⟩
  refine ⟨_, rfl, c, rfl, _, rfl, ?_⟩
  dsimp only at k
  cases e1 : Vaesca.isSmall c with
  | true => rw [e1] at k; exact iteT k
  | false =>
    rw [e1] at k
    refine iteF ⟨_, rfl, c, rfl, _, rfl, ?_⟩
    cases e2 : Vaesca.isGreat c with
    | true => rw [e2] at k; exact iteT k
    | false =>
      rw [e2] at k
      refine iteF ⟨_, rfl, c, rfl, _, rfl, ?_⟩
      cases e3 : Vaesca.isDigit c with
      | true => rw [e3] at k; exact iteT k
      | false =>
        rw [e3] at k
        refine iteF ⟨_, rfl, rfl, ?_⟩
        have q := dec_eq 35 c
        rw [show (c == 35) = _ from q.symm] at k
        exact k
theorem D_is_bare_sign (T : Tx P w K mg B) : DefOk P w K mg base "is_bare_sign" B.f_is_bare_sign 2 ["sign"] (spB Vaesca.isBare) := by
  have D_is_mark := D_is_mark (base := base) T
  have D_is_blank := D_is_blank (base := base) T
  refine mkDef T.f_is_bare_sign sc_is_bare_sign spB_len fun cdv A outer s H vs Q E hr h => ?_
  obtain ⟨c, rfl, k⟩ := h
  refine ⟨_, (pss_one (ps_ret (pe_and (pe_not (pcall D_is_mark (hr.mono (by decide)) rfl (pa_cons (pv 0) pa_nil))) (pe_and (pe_not (pcall D_is_blank (hr.mono (by decide)) rfl (pa_cons (pv 0) pa_nil))) (pe_one (pe_cmpR op_notIn_seq (pv 0) (pga T.a_NOT_BARE) rfl)))))), ?_⟩
  refine ⟨_, rfl, c, rfl, _, rfl, _, rfl, ?_⟩
  rw [show Vaesca.isBare c = (!Vaesca.isMark c && !Vaesca.isBlank c && !([34, 38, 39, 60, 61, 62, 96].contains c)) from rfl] at k
  cases e1 : Vaesca.isMark c with
  | true => rw [e1] at k; exact iteF k
  | false =>
    rw [e1] at k
    refine iteT ⟨_, rfl, c, rfl, _, rfl, _, rfl, ?_⟩
    cases e2 : Vaesca.isBlank c with
    | true => rw [e2] at k; exact iteF k
    | false =>
      rw [e2] at k
      refine iteT ⟨_, rfl, B.t_NOT_BARE, _, rfl, .inr (T.t_NOT_BARE H), rfl, rfl, ?_⟩
      rw [← inV_nat] at k
      exact k
end
end Mr
end
section
set_option Elab.async false
set_option linter.all false
set_option maxRecDepth 100000
set_option maxHeartbeats 1000000
namespace Hr
open PySem PySem.Spec PyProof.Rows L2
open Vaesca (Text Token Reader Mode Home)
abbrev Lab := Addr → Nat
def relab (ρ : Lab) (a : Addr) (n : Nat) : Lab := fun b => if b = a then n else ρ b
theorem relab_same {ρ : Lab} {a : Addr} {n : Nat} : relab ρ a n a = n := by unfold relab; rw [if_pos rfl]
theorem relab_ne {ρ : Lab} {a b : Addr} {n : Nat} (h : b ≠ a) : relab ρ a n b = ρ b := by unfold relab; rw [if_neg h]
def Stay (L : Nat → Prop) (ρ : Lab) (H : Hp) (ρ' : Lab) (H' : Hp) : Prop := ∀ b o, H b = some o → L (ρ b) → H' b = some o ∧ ρ' b = ρ b
theorem Stay.sub {L L' : Nat → Prop} {ρ ρ' : Lab} {H H' : Hp} (s : Stay L ρ H ρ' H') (h : ∀ n, L' n → L n) : Stay L' ρ H ρ' H' := fun b o e l => s b o e (h _ l)
theorem Stay.trans {L : Nat → Prop} {ρ ρ' ρ'' : Lab} {H H' H'' : Hp} (s : Stay L ρ H ρ' H') (t : Stay L ρ' H' ρ'' H'') : Stay L ρ H ρ'' H'' := fun b o e l => by
  obtain ⟨h1, h2⟩ := s b o e l
  obtain ⟨h3, h4⟩ := t b o h1 (by rw [h2]; exact l)
  exact ⟨h3, h4.trans h2⟩
theorem Stay.refl {L : Nat → Prop} {ρ : Lab} {H : Hp} : Stay L ρ H ρ H := fun _ _ e _ => ⟨e, rfl⟩
theorem Stay.chg {ρ : Lab} {H : Hp} {x : Addr} {o : HO} {n : Nat} (hx : ρ x = n) : Stay (· ≠ n) ρ H ρ (upd H x o) := fun b u e l => ⟨by rw [upd_ne (fun z => l (by rw [z]; exact hx))]; exact e, rfl⟩
theorem Stay.new {ρ : Lab} {H : Hp} {x : Addr} {o : HO} {n : Nat} (hx : H x = none) : Stay (fun _ => True) ρ H (relab ρ x n) (upd H x o) := fun b u e _ => by
  have ne : b ≠ x := ne_of_none e hx
  exact ⟨by rw [upd_ne ne]; exact e, relab_ne ne⟩
theorem Stay.lab {ρ : Lab} {H : Hp} {x : Addr} {n k : Nat} (hx : ρ x = n) : Stay (· ≠ n) ρ H (relab ρ x k) H := fun b u e l => ⟨e, relab_ne (fun z => l (by rw [z]; exact hx))⟩
abbrev Fr (ρ : Lab) (H : Hp) (ρ' : Lab) (H' : Hp) : Prop := Stay (· = 0) ρ H ρ' H'
def nats (t : Text) : List V := t.map fun (n : Nat) => V.int (n : Int)
def keys (t : Text) : List Key := t.map fun (n : Nat) => Sum.inl (n : Int)
theorem keys_kV (t : Text) : (keys t).map kV = nats t := by
  unfold keys nats
  rw [List.map_map]
  rfl
theorem keys_inj : ∀ {a b : Text}, keys a = keys b → a = b
  | [], [], _ => rfl
  | [], _ :: _, e => by cases e
  | _ :: _, [], e => by cases e
  | x :: a, y :: b, e => by
    unfold keys at e
    rw [List.map_cons, List.map_cons] at e
    injection e with e1 e2
    injection e1 with e1
    have := keys_inj (a := a) (b := b) e2
    rw [this, Int.ofNat.inj e1]
theorem nats_len (t : Text) : (nats t).length = t.length := List.length_map _
theorem nats_app (t u : Text) : nats (t ++ u) = nats t ++ nats u := List.map_append
def NatS (H : Hp) (ρ : Lab) (n : Nat) (a : Addr) (t : Text) : Prop := H a = some (.lst (nats t)) ∧ ρ a = n
theorem NatS.keep {H H' : Hp} {ρ ρ' : Lab} {n : Nat} {a : Addr} {t : Text} (h : NatS H ρ n a t) {L : Nat → Prop} (s : Stay L ρ H ρ' H') (l : L n) : NatS H' ρ' n a t := by
  obtain ⟨h1, h2⟩ := s a _ h.1 (by rw [h.2]; exact l)
  exact ⟨h1, h2.trans h.2⟩
def AttP (H : Hp) (ρ : Lab) (kv : List Key × V) (a : Text × Text) : Prop := kv.1 = keys a.1 ∧ ∃ x, kv.2 = .ref x ∧ NatS H ρ 1 x a.2
def AttS (H : Hp) (ρ : Lab) (n : Nat) (d : Addr) (as : List (Text × Text)) : Prop := ρ d = n ∧ ∃ kvs, H d = some (.dT kvs) ∧ Paired (AttP H ρ) kvs as
theorem AttS.keep {H H' : Hp} {ρ ρ' : Lab} {n : Nat} {d : Addr} {as : List (Text × Text)} (h : AttS H ρ n d as) {L : Nat → Prop} (s : Stay L ρ H ρ' H') (l : L n) (l1 : L 1) : AttS H' ρ' n d as := by
  obtain ⟨h1, kvs, h2, h3⟩ := h
  obtain ⟨q1, q2⟩ := s d _ h2 (by rw [h1]; exact l)
  exact ⟨q2.trans h1, kvs, q1, Paired.mapP h3 fun a b ⟨z1, x, z2, z3⟩ => ⟨z1, x, z2, z3.keep s l1⟩⟩
def tokKind : Token → Nat
  | .text _ _ => 0 | .opened _ _ _ _ => 1 | .closed _ _ => 2 | .comment _ _ => 3 | .raw _ _ => 4
def tokPlace : Token → Nat
  | .text p _ => p | .opened p _ _ _ => p | .closed p _ => p | .comment p _ => p | .raw p _ => p
def tokSigns : Token → Text
  | .text _ s => s | .opened _ s _ _ => s | .closed _ s => s | .comment _ s => s | .raw _ s => s
def tokAttrs : Token → List (Text × Text)
  | .opened _ _ as _ => as | _ => []
def tokEnded : Token → Nat
  | .opened _ _ _ true => 1 | _ => 0
def tfs (k p : Int) (s d : Addr) (e : Int) : List (Str × V) := [("kind", .int k), ("place", .int p), ("signs", .ref s), ("attributes", .ref d), ("ended", .int e)]
structure Cl where
  tok : Addr
  rdr : Addr
def TokP (C : Cl) (H : Hp) (ρ : Lab) (v : V) (t : Token) : Prop := ∃ a dx ls d, v = .ref a ∧ H a = some (.ins C.tok dx (tfs (tokKind t) (tokPlace t) ls d (tokEnded t))) ∧ ρ a = 1 ∧ NatS H ρ 1 ls (tokSigns t) ∧ AttS H ρ 1 d (tokAttrs t)
theorem TokP.keep {C : Cl} {H H' : Hp} {ρ ρ' : Lab} {v : V} {t : Token} (h : TokP C H ρ v t) {L : Nat → Prop} (s : Stay L ρ H ρ' H') (l1 : L 1) : TokP C H' ρ' v t := by
  obtain ⟨a, dx, ls, d, h1, h2, h3, h4, h5⟩ := h
  obtain ⟨q1, q2⟩ := s a _ h2 (by rw [h3]; exact l1)
  exact ⟨a, dx, ls, d, h1, q1, q2.trans h3, h4.keep s l1, h5.keep s l1 l1⟩
def TokS (C : Cl) (H : Hp) (ρ : Lab) (l : Addr) (ts : List Token) : Prop := ρ l = 3 ∧ ∃ vs, H l = some (.lst vs) ∧ Paired (TokP C H ρ) vs ts
theorem TokS.keep {C : Cl} {H H' : Hp} {ρ ρ' : Lab} {l : Addr} {ts : List Token} (h : TokS C H ρ l ts) {L : Nat → Prop} (s : Stay L ρ H ρ' H') (l3 : L 3) (l1 : L 1) : TokS C H' ρ' l ts := by
  obtain ⟨h1, vs, h2, h3⟩ := h
  obtain ⟨q1, q2⟩ := s l _ h2 (by rw [h1]; exact l3)
  exact ⟨q2.trans h1, vs, q1, Paired.mapP h3 fun a b z => z.keep s l1⟩
def MarP (H : Hp) (ρ : Lab) (v : V) (m : Nat × Nat) : Prop := ∃ a, v = .ref a ∧ H a = some (.tup [.int (m.1 : Int), .int (m.2 : Int)]) ∧ ρ a = 1
def MarS (H : Hp) (ρ : Lab) (l : Addr) (ms : List (Nat × Nat)) : Prop := ρ l = 9 ∧ ∃ vs, H l = some (.lst vs) ∧ Paired (MarP H ρ) vs ms
theorem MarS.keep {H H' : Hp} {ρ ρ' : Lab} {l : Addr} {ms : List (Nat × Nat)} (h : MarS H ρ l ms) {L : Nat → Prop} (s : Stay L ρ H ρ' H') (l9 : L 9) (l1 : L 1) : MarS H' ρ' l ms := by
  obtain ⟨h1, vs, h2, h3⟩ := h
  obtain ⟨q1, q2⟩ := s l _ h2 (by rw [h1]; exact l9)
  refine ⟨q2.trans h1, vs, q1, Paired.mapP h3 fun a b ⟨x, z1, z2, z3⟩ => ?_⟩
  obtain ⟨r1, r2⟩ := s x _ z2 (by rw [z3]; exact l1)
  exact ⟨x, z1, r1, r2.trans z3⟩
structure Ad where
  dx : Addr
  tok : Addr
  tag : Addr
  att : Addr
  nam : Addr
  bod : Addr
  run : Addr
  mar : Addr
def wk (m : Reader) : Nat := match m.wrong with | some (k, _) => k | none => 0
def wp (m : Reader) : Nat := match m.wrong with | some (_, p) => p | none => 0
def rfs (mo cnt k p tp : Int) (A : Ad) : List (Str × V) := [("mode", .int mo), ("read_count", .int cnt), ("fault_kind", .int k), ("fault_place", .int p), ("tokens", .ref A.tok), ("token_place", .int tp), ("tag_name", .ref A.tag),
  ("attributes", .ref A.att), ("attribute_name", .ref A.nam), ("body", .ref A.bod), ("run", .ref A.run), ("marks", .ref A.mar)]
def rf (m : Reader) (A : Ad) : List (Str × V) := rfs (m.mode.code : Int) (m.count : Int) (wk m : Int) (wp m : Int) (m.from_ : Int) A
structure Parts (C : Cl) (H : Hp) (ρ : Lab) (A : Ad) (m : Reader) (o k j : Bool) : Prop where
  tok : TokS C H ρ A.tok m.tokens
  tag : H A.tag = some (.lst (nats m.tag)) ∧ (ρ A.tag = 4 ∨ (ρ A.tag = 1 ∧ o = false))
  att : j = true → AttS H ρ 5 A.att m.attrs
  nam : NatS H ρ 6 A.nam m.attr
  bod : NatS H ρ 7 A.bod m.body
  run : k = true → NatS H ρ 8 A.run m.run
  mar : MarS H ρ A.mar m.marks
structure RAt (C : Cl) (H : Hp) (ρ : Lab) (A : Ad) (p : Addr) (m : Reader) (o k j : Bool) : Prop extends Parts C H ρ A m o k j where
  ins : H p = some (.ins C.rdr A.dx (rf m A))
  lab : ρ p = 2
theorem tag_keep {H H' : Hp} {ρ ρ' : Lab} {a : Addr} {t : Text} {o : Bool} {L : Nat → Prop} (h : H a = some (.lst (nats t)) ∧ (ρ a = 4 ∨ (ρ a = 1 ∧ o = false))) (s : Stay L ρ H ρ' H') (l4 : L 4) (l1 : L 1) :
    H' a = some (.lst (nats t)) ∧ (ρ' a = 4 ∨ (ρ' a = 1 ∧ o = false)) := by
  obtain ⟨h1, h2⟩ := h
  rcases h2 with h2 | ⟨h2, h3⟩
  · obtain ⟨q1, q2⟩ := s a _ h1 (by rw [h2]; exact l4)
    exact ⟨q1, .inl (q2.trans h2)⟩
  · obtain ⟨q1, q2⟩ := s a _ h1 (by rw [h2]; exact l1)
    exact ⟨q1, .inr ⟨q2.trans h2, h3⟩⟩
section
variable {C : Cl} {H H' : Hp} {ρ ρ' : Lab} {A : Ad} {p : Addr} {m : Reader} {o k j : Bool}
theorem Parts.keep (P : Parts C H ρ A m o k j) {L : Nat → Prop} (s : Stay L ρ H ρ' H') (l : ∀ n, n ≠ 0 → n ≠ 2 → L n) : Parts C H' ρ' A m o k j :=
  ⟨P.tok.keep s (l 3 (by decide) (by decide)) (l 1 (by decide) (by decide)), tag_keep P.tag s (l 4 (by decide) (by decide)) (l 1 (by decide) (by decide)), fun e => (P.att e).keep s (l 5 (by decide) (by decide)) (l 1 (by decide) (by decide)), P.nam.keep s (l 6 (by decide) (by decide)),
    P.bod.keep s (l 7 (by decide) (by decide)), fun e => (P.run e).keep s (l 8 (by decide) (by decide)), P.mar.keep s (l 9 (by decide) (by decide)) (l 1 (by decide) (by decide))⟩
theorem RAt.keep (R : RAt C H ρ A p m o k j) {L : Nat → Prop} (s : Stay L ρ H ρ' H') (l : ∀ n, n ≠ 0 → L n) : RAt C H' ρ' A p m o k j := by
  obtain ⟨h1, h2⟩ := s p _ R.ins (by rw [R.lab]; exact l 2 (by decide))
  exact ⟨R.toParts.keep s fun n a _ => l n a, h1, h2.trans R.lab⟩
theorem RAt.reobj {A' : Ad} {m' : Reader} {o' k' j' : Bool} {fs : List (Str × V)} (R : RAt C H ρ A p m o k j) (hf : fs = rf m' A') (hdx : A'.dx = A.dx) (P : Parts C H ρ A' m' o' k' j') :
    RAt C (upd H p (.ins C.rdr A.dx fs)) ρ A' p m' o' k' j' ∧ Fr ρ H ρ (upd H p (.ins C.rdr A.dx fs)) := by
  have S : Stay (· ≠ 2) ρ H ρ (upd H p (.ins C.rdr A.dx fs)) := Stay.chg R.lab
  refine ⟨⟨P.keep S fun n _ h => h, by rw [upd_same, hf, hdx], R.lab⟩, S.sub fun n z => by show n ≠ 2; rw [show n = 0 from z]; decide⟩
end
def At (C : Cl) (ρ0 : Lab) (H0 : Hp) (p : Addr) (m : Reader) (o k j : Bool) (H : Hp) : Prop := ∃ ρ A, RAt C H ρ A p m o k j ∧ Fr ρ0 H0 ρ H
def Wh (C : Cl) (ρ0 : Lab) (H0 : Hp) (p : Addr) (m : Reader) (H : Hp) : Prop := ∃ o, At C ρ0 H0 p m o true true H ∧ (m.mode = .openName ∨ m.mode = .closeName → o = true)
theorem At.trans {C : Cl} {ρ0 ρ : Lab} {H0 H H' : Hp} {p : Addr} {m : Reader} {o k j : Bool} (F : Fr ρ0 H0 ρ H) (a : At C ρ H p m o k j H') : At C ρ0 H0 p m o k j H' := by
  obtain ⟨ρ', A, R, F'⟩ := a
  exact ⟨ρ', A, R, F.trans F'⟩
theorem Wh.trans {C : Cl} {ρ0 ρ : Lab} {H0 H H' : Hp} {p : Addr} {m : Reader} (F : Fr ρ0 H0 ρ H) (a : Wh C ρ H p m H') : Wh C ρ0 H0 p m H' := by
  obtain ⟨o, a, h⟩ := a
  exact ⟨o, a.trans F, h⟩
theorem At.wh {C : Cl} {ρ0 : Lab} {H0 H : Hp} {p : Addr} {m : Reader} {o : Bool} (a : At C ρ0 H0 p m o true true H) (h : m.mode = .openName ∨ m.mode = .closeName → o = true) : Wh C ρ0 H0 p m H := ⟨o, a, h⟩
theorem At.whN {C : Cl} {ρ0 : Lab} {H0 H : Hp} {p : Addr} {m : Reader} {o : Bool} (a : At C ρ0 H0 p m o true true H) (h : m.mode ≠ .openName) (h' : m.mode ≠ .closeName) : Wh C ρ0 H0 p m H := ⟨o, a, fun z => (z.elim h h').elim⟩
theorem Stay.same {ρ : Lab} {H H' : Hp} (s : Same H H') : ∃ ρ' : Lab, Stay (fun _ => True) ρ H ρ' H' ∧ ∀ b, H b = none → ρ' b = 0 := by
  refine ⟨fun b => match H b with | none => 0 | some _ => ρ b, fun b u e _ => ⟨s b u e, by show (match H b with | none => 0 | some _ => ρ b) = ρ b; rw [e]⟩, fun b e => by show (match H b with | none => 0 | some _ => ρ b) = 0; rw [e]⟩
theorem At.same {C : Cl} {ρ0 : Lab} {H0 H H' : Hp} {p : Addr} {m : Reader} {o k j : Bool} (a : At C ρ0 H0 p m o k j H) (s : Same H H') : At C ρ0 H0 p m o k j H' := by
  obtain ⟨ρ, A, R, F⟩ := a
  obtain ⟨ρ', S, _⟩ := Stay.same (ρ := ρ) s
  exact ⟨ρ', A, R.keep S fun _ _ => trivial, F.trans (S.sub fun _ _ => trivial)⟩
theorem Same.upd {H : Hp} {x : Addr} {ob : HO} (h : H x = none) : Same H (upd H x ob) := fun b u e => by rw [upd_ne (ne_of_none e h)]; exact e
structure Txt (K : PySem.W.Frag) (C : Cl) : Prop where
  clT : Cls K C.tok
  clR : Cls K C.rdr
  t1 : NoAttr K C.tok "kind"
  t2 : NoAttr K C.tok "place"
  t3 : NoAttr K C.tok "signs"
  t4 : NoAttr K C.tok "attributes"
  t5 : NoAttr K C.tok "ended"
  r1 : NoAttr K C.rdr "mode"
  r2 : NoAttr K C.rdr "read_count"
  r3 : NoAttr K C.rdr "fault_kind"
  r4 : NoAttr K C.rdr "fault_place"
  r5 : NoAttr K C.rdr "tokens"
  r6 : NoAttr K C.rdr "token_place"
  r7 : NoAttr K C.rdr "tag_name"
  r8 : NoAttr K C.rdr "attributes"
  r9 : NoAttr K C.rdr "attribute_name"
  r10 : NoAttr K C.rdr "body"
  r11 : NoAttr K C.rdr "run"
  r12 : NoAttr K C.rdr "marks"
section
variable {K : PySem.W.Frag} {C : Cl} {H H0 : Hp} {ρ ρ0 : Lab} {A : Ad} {p : Addr} {m : Reader} {σ : L2.St} {D : Ends} {i : Nat} {Q : VK} {o k j : Bool} {tv te : TE}
theorem RAt.g_mode (T : Txt K C) (R : RAt C H ρ A p m o k j) (hp : σ[i]? = some (some (.ref p))) (h : Q (.int (m.mode.code : Int)) H) : tFld K (tVar i) "mode" σ H Q := ⟨_, hp, p, C.rdr, A.dx, _, _, rfl, R.ins, T.clR, T.r1, rfl, h⟩
theorem RAt.g_count (T : Txt K C) (R : RAt C H ρ A p m o k j) (hp : σ[i]? = some (some (.ref p))) (h : Q (.int (m.count : Int)) H) : tFld K (tVar i) "read_count" σ H Q := ⟨_, hp, p, C.rdr, A.dx, _, _, rfl, R.ins, T.clR, T.r2, rfl, h⟩
theorem RAt.g_kind (T : Txt K C) (R : RAt C H ρ A p m o k j) (hp : σ[i]? = some (some (.ref p))) (h : Q (.int (wk m : Int)) H) : tFld K (tVar i) "fault_kind" σ H Q := ⟨_, hp, p, C.rdr, A.dx, _, _, rfl, R.ins, T.clR, T.r3, rfl, h⟩
theorem RAt.g_place (T : Txt K C) (R : RAt C H ρ A p m o k j) (hp : σ[i]? = some (some (.ref p))) (h : Q (.int (wp m : Int)) H) : tFld K (tVar i) "fault_place" σ H Q := ⟨_, hp, p, C.rdr, A.dx, _, _, rfl, R.ins, T.clR, T.r4, rfl, h⟩
theorem RAt.g_tok (T : Txt K C) (R : RAt C H ρ A p m o k j) (hp : σ[i]? = some (some (.ref p))) (h : Q (.ref A.tok) H) : tFld K (tVar i) "tokens" σ H Q := ⟨_, hp, p, C.rdr, A.dx, _, _, rfl, R.ins, T.clR, T.r5, rfl, h⟩
theorem RAt.g_tp (T : Txt K C) (R : RAt C H ρ A p m o k j) (hp : σ[i]? = some (some (.ref p))) (h : Q (.int (m.from_ : Int)) H) : tFld K (tVar i) "token_place" σ H Q := ⟨_, hp, p, C.rdr, A.dx, _, _, rfl, R.ins, T.clR, T.r6, rfl, h⟩
theorem RAt.g_tag (T : Txt K C) (R : RAt C H ρ A p m o k j) (hp : σ[i]? = some (some (.ref p))) (h : Q (.ref A.tag) H) : tFld K (tVar i) "tag_name" σ H Q := ⟨_, hp, p, C.rdr, A.dx, _, _, rfl, R.ins, T.clR, T.r7, rfl, h⟩
theorem RAt.g_att (T : Txt K C) (R : RAt C H ρ A p m o k j) (hp : σ[i]? = some (some (.ref p))) (h : Q (.ref A.att) H) : tFld K (tVar i) "attributes" σ H Q := ⟨_, hp, p, C.rdr, A.dx, _, _, rfl, R.ins, T.clR, T.r8, rfl, h⟩
theorem RAt.g_nam (T : Txt K C) (R : RAt C H ρ A p m o k j) (hp : σ[i]? = some (some (.ref p))) (h : Q (.ref A.nam) H) : tFld K (tVar i) "attribute_name" σ H Q := ⟨_, hp, p, C.rdr, A.dx, _, _, rfl, R.ins, T.clR, T.r9, rfl, h⟩
theorem RAt.g_bod (T : Txt K C) (R : RAt C H ρ A p m o k j) (hp : σ[i]? = some (some (.ref p))) (h : Q (.ref A.bod) H) : tFld K (tVar i) "body" σ H Q := ⟨_, hp, p, C.rdr, A.dx, _, _, rfl, R.ins, T.clR, T.r10, rfl, h⟩
theorem RAt.g_run (T : Txt K C) (R : RAt C H ρ A p m o k j) (hp : σ[i]? = some (some (.ref p))) (h : Q (.ref A.run) H) : tFld K (tVar i) "run" σ H Q := ⟨_, hp, p, C.rdr, A.dx, _, _, rfl, R.ins, T.clR, T.r11, rfl, h⟩
theorem RAt.g_mar (T : Txt K C) (R : RAt C H ρ A p m o k j) (hp : σ[i]? = some (some (.ref p))) (h : Q (.ref A.mar) H) : tFld K (tVar i) "marks" σ H Q := ⟨_, hp, p, C.rdr, A.dx, _, _, rfl, R.ins, T.clR, T.r12, rfl, h⟩
theorem At.s_mode (T : Txt K C) (a : At C ρ0 H0 p m o k j H) (mo : Mode) (hp : σ[i]? = some (some (.ref p))) (hv : ∀ Q : VK, Q (.int (mo.code : Int)) H → tv σ H Q) (h : ∀ H', At C ρ0 H0 p { m with mode := mo } o k j H' → D.nx σ H') : sFld K (tVar i) tv "mode" D σ H := by
  obtain ⟨ρ, A, R, F⟩ := a
  refine hv _ ⟨_, hp, p, C.rdr, A.dx, _, rfl, R.ins, T.clR, T.r1, (by show 12 < 1000; decide), ?_⟩
  obtain ⟨R', F'⟩ := R.reobj (A' := A) (m' := { m with mode := mo }) (o' := o) (k' := k) (j' := j) (fs := putF "mode" (.int (mo.code : Int)) (rf m A)) rfl rfl ⟨R.tok, R.tag, R.att, R.nam, R.bod, R.run, R.mar⟩
  exact h _ ⟨ρ, A, R', F.trans F'⟩
theorem At.s_count (T : Txt K C) (a : At C ρ0 H0 p m o k j H) (n : Nat) (hp : σ[i]? = some (some (.ref p))) (hv : ∀ Q : VK, Q (.int (n : Int)) H → tv σ H Q) (h : ∀ H', At C ρ0 H0 p { m with count := n } o k j H' → D.nx σ H') : sFld K (tVar i) tv "read_count" D σ H := by
  obtain ⟨ρ, A, R, F⟩ := a
  refine hv _ ⟨_, hp, p, C.rdr, A.dx, _, rfl, R.ins, T.clR, T.r2, (by show 12 < 1000; decide), ?_⟩
  obtain ⟨R', F'⟩ := R.reobj (A' := A) (m' := { m with count := n }) (o' := o) (k' := k) (j' := j) (fs := putF "read_count" (.int (n : Int)) (rf m A)) rfl rfl ⟨R.tok, R.tag, R.att, R.nam, R.bod, R.run, R.mar⟩
  exact h _ ⟨ρ, A, R', F.trans F'⟩
theorem At.s_tp (T : Txt K C) (a : At C ρ0 H0 p m o k j H) (n : Nat) (hp : σ[i]? = some (some (.ref p))) (hv : ∀ Q : VK, Q (.int (n : Int)) H → tv σ H Q) (h : ∀ H', At C ρ0 H0 p { m with from_ := n } o k j H' → D.nx σ H') : sFld K (tVar i) tv "token_place" D σ H := by
  obtain ⟨ρ, A, R, F⟩ := a
  refine hv _ ⟨_, hp, p, C.rdr, A.dx, _, rfl, R.ins, T.clR, T.r6, (by show 12 < 1000; decide), ?_⟩
  obtain ⟨R', F'⟩ := R.reobj (A' := A) (m' := { m with from_ := n }) (o' := o) (k' := k) (j' := j) (fs := putF "token_place" (.int (n : Int)) (rf m A)) rfl rfl ⟨R.tok, R.tag, R.att, R.nam, R.bod, R.run, R.mar⟩
  exact h _ ⟨ρ, A, R', F.trans F'⟩
theorem At.s_kind (T : Txt K C) (a : At C ρ0 H0 p m o k j H) (n : Nat) (hp : σ[i]? = some (some (.ref p))) (hv : ∀ Q : VK, Q (.int (n : Int)) H → tv σ H Q) (h : ∀ H', At C ρ0 H0 p { m with wrong := some (n, wp m) } o k j H' → D.nx σ H') : sFld K (tVar i) tv "fault_kind" D σ H := by
  obtain ⟨ρ, A, R, F⟩ := a
  refine hv _ ⟨_, hp, p, C.rdr, A.dx, _, rfl, R.ins, T.clR, T.r3, (by show 12 < 1000; decide), ?_⟩
  obtain ⟨R', F'⟩ := R.reobj (A' := A) (m' := { m with wrong := some (n, wp m) }) (o' := o) (k' := k) (j' := j) (fs := putF "fault_kind" (.int (n : Int)) (rf m A)) rfl rfl ⟨R.tok, R.tag, R.att, R.nam, R.bod, R.run, R.mar⟩
  exact h _ ⟨ρ, A, R', F.trans F'⟩
theorem At.s_place (T : Txt K C) (a : At C ρ0 H0 p m o k j H) (n : Nat) (hp : σ[i]? = some (some (.ref p))) (hv : ∀ Q : VK, Q (.int (n : Int)) H → tv σ H Q) (h : ∀ H', At C ρ0 H0 p { m with wrong := some (wk m, n) } o k j H' → D.nx σ H') : sFld K (tVar i) tv "fault_place" D σ H := by
  obtain ⟨ρ, A, R, F⟩ := a
  refine hv _ ⟨_, hp, p, C.rdr, A.dx, _, rfl, R.ins, T.clR, T.r4, (by show 12 < 1000; decide), ?_⟩
  obtain ⟨R', F'⟩ := R.reobj (A' := A) (m' := { m with wrong := some (wk m, n) }) (o' := o) (k' := k) (j' := j) (fs := putF "fault_place" (.int (n : Int)) (rf m A)) rfl rfl ⟨R.tok, R.tag, R.att, R.nam, R.bod, R.run, R.mar⟩
  exact h _ ⟨ρ, A, R', F.trans F'⟩
theorem At.s_tag (T : Txt K C) (a : At C ρ0 H0 p m o k j H) (t : Text) (hp : σ[i]? = some (some (.ref p))) (hv : ∀ Q : VK, (∀ l, H l = none → Q (.ref l) (upd H l (.lst (nats t)))) → tv σ H Q) (h : ∀ H', At C ρ0 H0 p { m with tag := t } true k j H' → D.nx σ H') : sFld K (tVar i) tv "tag_name" D σ H := by
  obtain ⟨ρ, A, R, F⟩ := a
  refine hv _ fun l hl => ?_
  have S : Stay (fun _ => True) ρ H (relab ρ l 4) (upd H l (.lst (nats t))) := Stay.new hl
  have R1 := R.keep S fun _ _ => trivial
  refine ⟨_, hp, p, C.rdr, A.dx, _, rfl, R1.ins, T.clR, T.r7, (by show 12 < 1000; decide), ?_⟩
  obtain ⟨R', F'⟩ := R1.reobj (A' := { A with tag := l }) (m' := { m with tag := t }) (o' := true) (k' := k) (j' := j) (fs := putF "tag_name" (.ref l) (rf m A)) rfl rfl ⟨R1.tok, ⟨upd_same, .inl relab_same⟩, R1.att, R1.nam, R1.bod, R1.run, R1.mar⟩
  exact h _ ⟨_, _, R', (F.trans (S.sub fun _ _ => trivial)).trans F'⟩
theorem At.s_nam (T : Txt K C) (a : At C ρ0 H0 p m o k j H) (t : Text) (hp : σ[i]? = some (some (.ref p))) (hv : ∀ Q : VK, (∀ l, H l = none → Q (.ref l) (upd H l (.lst (nats t)))) → tv σ H Q) (h : ∀ H', At C ρ0 H0 p { m with attr := t } o k j H' → D.nx σ H') : sFld K (tVar i) tv "attribute_name" D σ H := by
  obtain ⟨ρ, A, R, F⟩ := a
  refine hv _ fun l hl => ?_
  have S : Stay (fun _ => True) ρ H (relab ρ l 6) (upd H l (.lst (nats t))) := Stay.new hl
  have R1 := R.keep S fun _ _ => trivial
  refine ⟨_, hp, p, C.rdr, A.dx, _, rfl, R1.ins, T.clR, T.r9, (by show 12 < 1000; decide), ?_⟩
  obtain ⟨R', F'⟩ := R1.reobj (A' := { A with nam := l }) (m' := { m with attr := t }) (o' := o) (k' := k) (j' := j) (fs := putF "attribute_name" (.ref l) (rf m A)) rfl rfl ⟨R1.tok, R1.tag, R1.att, ⟨upd_same, relab_same⟩, R1.bod, R1.run, R1.mar⟩
  exact h _ ⟨_, _, R', (F.trans (S.sub fun _ _ => trivial)).trans F'⟩
theorem At.s_bod (T : Txt K C) (a : At C ρ0 H0 p m o k j H) (t : Text) (hp : σ[i]? = some (some (.ref p))) (hv : ∀ Q : VK, (∀ l, H l = none → Q (.ref l) (upd H l (.lst (nats t)))) → tv σ H Q) (h : ∀ H', At C ρ0 H0 p { m with body := t } o k j H' → D.nx σ H') : sFld K (tVar i) tv "body" D σ H := by
  obtain ⟨ρ, A, R, F⟩ := a
  refine hv _ fun l hl => ?_
  have S : Stay (fun _ => True) ρ H (relab ρ l 7) (upd H l (.lst (nats t))) := Stay.new hl
  have R1 := R.keep S fun _ _ => trivial
  refine ⟨_, hp, p, C.rdr, A.dx, _, rfl, R1.ins, T.clR, T.r10, (by show 12 < 1000; decide), ?_⟩
  obtain ⟨R', F'⟩ := R1.reobj (A' := { A with bod := l }) (m' := { m with body := t }) (o' := o) (k' := k) (j' := j) (fs := putF "body" (.ref l) (rf m A)) rfl rfl ⟨R1.tok, R1.tag, R1.att, R1.nam, ⟨upd_same, relab_same⟩, R1.run, R1.mar⟩
  exact h _ ⟨_, _, R', (F.trans (S.sub fun _ _ => trivial)).trans F'⟩
theorem At.s_run (T : Txt K C) (a : At C ρ0 H0 p m o k j H) (t : Text) (hp : σ[i]? = some (some (.ref p))) (hv : ∀ Q : VK, (∀ l, H l = none → Q (.ref l) (upd H l (.lst (nats t)))) → tv σ H Q) (h : ∀ H', At C ρ0 H0 p { m with run := t } o true j H' → D.nx σ H') : sFld K (tVar i) tv "run" D σ H := by
  obtain ⟨ρ, A, R, F⟩ := a
  refine hv _ fun l hl => ?_
  have S : Stay (fun _ => True) ρ H (relab ρ l 8) (upd H l (.lst (nats t))) := Stay.new hl
  have R1 := R.keep S fun _ _ => trivial
  refine ⟨_, hp, p, C.rdr, A.dx, _, rfl, R1.ins, T.clR, T.r11, (by show 12 < 1000; decide), ?_⟩
  obtain ⟨R', F'⟩ := R1.reobj (A' := { A with run := l }) (m' := { m with run := t }) (o' := o) (k' := true) (j' := j) (fs := putF "run" (.ref l) (rf m A)) rfl rfl ⟨R1.tok, R1.tag, R1.att, R1.nam, R1.bod, fun _ => ⟨upd_same, relab_same⟩, R1.mar⟩
  exact h _ ⟨_, _, R', (F.trans (S.sub fun _ _ => trivial)).trans F'⟩
theorem At.s_att (T : Txt K C) (a : At C ρ0 H0 p m o k j H) (hp : σ[i]? = some (some (.ref p))) (h : ∀ H', At C ρ0 H0 p { m with attrs := [] } o k true H' → D.nx σ H') : sFld K (tVar i) tDNewT "attributes" D σ H := by
  obtain ⟨ρ, A, R, F⟩ := a
  intro l hl
  have S : Stay (fun _ => True) ρ H (relab ρ l 5) (upd H l (.dT [])) := Stay.new hl
  have R1 := R.keep S fun _ _ => trivial
  refine ⟨_, hp, p, C.rdr, A.dx, _, rfl, R1.ins, T.clR, T.r8, (by show 12 < 1000; decide), ?_⟩
  obtain ⟨R', F'⟩ := R1.reobj (A' := { A with att := l }) (m' := { m with attrs := [] }) (o' := o) (k' := k) (j' := true) (fs := putF "attributes" (.ref l) (rf m A)) rfl rfl ⟨R1.tok, R1.tag, fun _ => ⟨relab_same, [], upd_same, .nil⟩, R1.nam, R1.bod, R1.run, R1.mar⟩
  exact h _ ⟨_, _, R', (F.trans (S.sub fun _ _ => trivial)).trans F'⟩
theorem RAt.c_run (R : RAt C H ρ A p m o true j) (t : Text) : RAt C (upd H A.run (.lst (nats t))) ρ A p { m with run := t } o true j ∧ Fr ρ H ρ (upd H A.run (.lst (nats t))) := by
  have hx : ρ A.run = 8 := (R.run rfl).2
  have S : Stay (· ≠ 8) ρ H ρ (upd H A.run (.lst (nats t))) := Stay.chg hx
  obtain ⟨h1, h2⟩ := S p _ R.ins (by rw [R.lab]; decide)
  exact ⟨⟨⟨R.tok.keep S (by decide) (by decide), tag_keep R.tag S (by decide) (by decide), fun e => (R.att e).keep S (by decide) (by decide), R.nam.keep S (by decide), R.bod.keep S (by decide), fun _ => ⟨upd_same, hx⟩, R.mar.keep S (by decide) (by decide)⟩, h1, R.lab⟩, S.sub fun n z => by show n ≠ 8; rw [show n = 0 from z]; decide⟩
theorem RAt.c_bod (R : RAt C H ρ A p m o k j) (t : Text) : RAt C (upd H A.bod (.lst (nats t))) ρ A p { m with body := t } o k j ∧ Fr ρ H ρ (upd H A.bod (.lst (nats t))) := by
  have hx : ρ A.bod = 7 := R.bod.2
  have S : Stay (· ≠ 7) ρ H ρ (upd H A.bod (.lst (nats t))) := Stay.chg hx
  obtain ⟨h1, h2⟩ := S p _ R.ins (by rw [R.lab]; decide)
  exact ⟨⟨⟨R.tok.keep S (by decide) (by decide), tag_keep R.tag S (by decide) (by decide), fun e => (R.att e).keep S (by decide) (by decide), R.nam.keep S (by decide), ⟨upd_same, hx⟩, fun e => (R.run e).keep S (by decide), R.mar.keep S (by decide) (by decide)⟩, h1, R.lab⟩, S.sub fun n z => by show n ≠ 7; rw [show n = 0 from z]; decide⟩
theorem RAt.c_nam (R : RAt C H ρ A p m o k j) (t : Text) : RAt C (upd H A.nam (.lst (nats t))) ρ A p { m with attr := t } o k j ∧ Fr ρ H ρ (upd H A.nam (.lst (nats t))) := by
  have hx : ρ A.nam = 6 := R.nam.2
  have S : Stay (· ≠ 6) ρ H ρ (upd H A.nam (.lst (nats t))) := Stay.chg hx
  obtain ⟨h1, h2⟩ := S p _ R.ins (by rw [R.lab]; decide)
  exact ⟨⟨⟨R.tok.keep S (by decide) (by decide), tag_keep R.tag S (by decide) (by decide), fun e => (R.att e).keep S (by decide) (by decide), ⟨upd_same, hx⟩, R.bod.keep S (by decide), fun e => (R.run e).keep S (by decide), R.mar.keep S (by decide) (by decide)⟩, h1, R.lab⟩, S.sub fun n z => by show n ≠ 6; rw [show n = 0 from z]; decide⟩
theorem RAt.c_tag (R : RAt C H ρ A p m true k j) (t : Text) : RAt C (upd H A.tag (.lst (nats t))) ρ A p { m with tag := t } true k j ∧ Fr ρ H ρ (upd H A.tag (.lst (nats t))) := by
  have hx : ρ A.tag = 4 := by rcases R.tag.2 with h | ⟨_, h⟩; exact h; cases h
  have S : Stay (· ≠ 4) ρ H ρ (upd H A.tag (.lst (nats t))) := Stay.chg hx
  obtain ⟨h1, h2⟩ := S p _ R.ins (by rw [R.lab]; decide)
  exact ⟨⟨⟨R.tok.keep S (by decide) (by decide), ⟨upd_same, .inl hx⟩, fun e => (R.att e).keep S (by decide) (by decide), R.nam.keep S (by decide), R.bod.keep S (by decide), fun e => (R.run e).keep S (by decide), R.mar.keep S (by decide) (by decide)⟩, h1, R.lab⟩, S.sub fun n z => by show n ≠ 4; rw [show n = 0 from z]; decide⟩
theorem At.s_runApp (T : Txt K C) (a : At C ρ0 H0 p m o true j H) (c : Nat) (hp : σ[i]? = some (some (.ref p))) (hv : ∀ Q : VK, Q (.int (c : Int)) H → te σ H Q) (hz : m.run.length < sizeLine) (h : ∀ H', At C ρ0 H0 p (m.add [c]) o true j H' → D.nx σ H') :
    tDrop (tBM K "list" rAppend (tFld K (tVar i) "run") (tCons te tNil)) D σ H := by
  obtain ⟨ρ, A, R, F⟩ := a
  unfold tDrop tBM
  refine R.g_run T hp ?_
  refine ⟨.inl ⟨rfl, _, SqL.of (R.run rfl).1⟩, hv _ ⟨_, _, _, rfl, rfl, (R.run rfl).1, by rw [nats_len]; exact hz, ?_⟩⟩
  obtain ⟨R', F'⟩ := R.c_run (m.run ++ [c])
  rw [nats_app] at R' F'
  exact h _ ⟨ρ, A, R', F.trans F'⟩
theorem At.s_bodApp (T : Txt K C) (a : At C ρ0 H0 p m o k j H) (c : Nat) (hp : σ[i]? = some (some (.ref p))) (hv : ∀ Q : VK, Q (.int (c : Int)) H → te σ H Q) (hz : m.body.length < sizeLine) (h : ∀ H', At C ρ0 H0 p { m with body := m.body ++ [c] } o k j H' → D.nx σ H') :
    tDrop (tBM K "list" rAppend (tFld K (tVar i) "body") (tCons te tNil)) D σ H := by
  obtain ⟨ρ, A, R, F⟩ := a
  unfold tDrop tBM
  refine R.g_bod T hp ?_
  refine ⟨.inl ⟨rfl, _, SqL.of R.bod.1⟩, hv _ ⟨_, _, _, rfl, rfl, R.bod.1, by rw [nats_len]; exact hz, ?_⟩⟩
  obtain ⟨R', F'⟩ := R.c_bod (m.body ++ [c])
  rw [nats_app] at R' F'
  exact h _ ⟨ρ, A, R', F.trans F'⟩
theorem At.s_runExt {ta : TA} (T : Txt K C) (a : At C ρ0 H0 p m o true j H) (t : Text) (hp : σ[i]? = some (some (.ref p))) (hv : ∀ Q : List V → Hp → Prop, Q (nats t) H → ta σ H Q) (hz : m.run.length + t.length ≤ sizeLine) (h : ∀ H', At C ρ0 H0 p (m.add t) o true j H' → D.nx σ H') :
    tDrop (tBM K "list" rExtend (tFld K (tVar i) "run") (tCons (tLst ta) tNil)) D σ H := by
  obtain ⟨ρ, A, R, F⟩ := a
  unfold tDrop tBM
  refine R.g_run T hp ?_
  refine ⟨.inl ⟨rfl, _, SqL.of (R.run rfl).1⟩, hv _ ⟨by rw [nats_len]; omega, fun l hl => ?_⟩⟩
  have S : Stay (fun _ => True) ρ H (relab ρ l 0) (upd H l (.lst (nats t))) := Stay.new hl
  have R1 := R.keep S fun _ _ => trivial
  refine ⟨_, _, _, _, rfl, rfl, (R1.run rfl).1, upd_same, by rw [nats_len, nats_len]; exact hz, ?_⟩
  obtain ⟨R', F'⟩ := R1.c_run (m.run ++ t)
  rw [nats_app] at R' F'
  exact h _ ⟨_, A, R', (F.trans (S.sub fun _ _ => trivial)).trans F'⟩
end
end Hr
end
section
set_option Elab.async false
set_option linter.all false
set_option maxRecDepth 100000
set_option maxHeartbeats 2000000
namespace Hr
open PySem PySem.Spec PyProof.Rows L2
open Vaesca (Text Token Reader Mode Home)
section
variable {K : PySem.W.Frag} {C : Cl} {H H' H0 : Hp} {ρ ρ0 : Lab} {A : Ad} {p : Addr} {m : Reader} {o k j : Bool}
theorem Stay.same1 {ρ : Lab} {H H' : Hp} (s : Same H H') : ∃ ρ' : Lab, Stay (fun _ => True) ρ H ρ' H' ∧ ∀ b, H b = none → ρ' b = 1 := by
  refine ⟨fun b => match H b with | none => 1 | some _ => ρ b, fun b u e _ => ⟨s b u e, by show (match H b with | none => 1 | some _ => ρ b) = ρ b; rw [e]⟩, fun b e => by show (match H b with | none => 1 | some _ => ρ b) = 1; rw [e]⟩
theorem fr_of {n : Nat} (hn : n ≠ 0) {ρ' : Lab} {H' : Hp} (S : Stay (· ≠ n) ρ H ρ' H') : Fr ρ H ρ' H' := S.sub fun q z => by show q ≠ n; rw [show q = 0 from z]; exact fun e => hn e.symm
theorem RAt.setRun (R : RAt C H ρ A p m o true j) : RAt C H (relab ρ A.run 1) A p m o false j ∧ Fr ρ H (relab ρ A.run 1) H ∧ NatS H (relab ρ A.run 1) 1 A.run m.run := by
  obtain ⟨e1, e2⟩ := R.run rfl
  have S : Stay (· ≠ 8) ρ H (relab ρ A.run 1) H := Stay.lab e2
  obtain ⟨h1, h2⟩ := S p _ R.ins (by rw [R.lab]; decide)
  exact ⟨⟨⟨R.tok.keep S (by decide) (by decide), tag_keep R.tag S (by decide) (by decide), fun e => (R.att e).keep S (by decide) (by decide), R.nam.keep S (by decide), R.bod.keep S (by decide), fun e => (by cases e), R.mar.keep S (by decide) (by decide)⟩, h1, h2.trans R.lab⟩, fr_of (by decide) S, e1, relab_same⟩
theorem relab_id {ρ : Lab} {a : Addr} {n : Nat} (h : ρ a = n) : relab ρ a n = ρ := by
  funext b
  unfold relab
  by_cases e : b = a
  · rw [if_pos e, e, h]
  · rw [if_neg e]
theorem RAt.setTag (R : RAt C H ρ A p m o k j) : RAt C H (relab ρ A.tag 1) A p m false k j ∧ Fr ρ H (relab ρ A.tag 1) H ∧ NatS H (relab ρ A.tag 1) 1 A.tag m.tag := by
  obtain ⟨e1, e2⟩ := R.tag
  rcases e2 with e2 | ⟨e2, e3⟩
  · have S : Stay (· ≠ 4) ρ H (relab ρ A.tag 1) H := Stay.lab e2
    obtain ⟨h1, h2⟩ := S p _ R.ins (by rw [R.lab]; decide)
    exact ⟨⟨⟨R.tok.keep S (by decide) (by decide), ⟨e1, .inr ⟨relab_same, rfl⟩⟩, fun e => (R.att e).keep S (by decide) (by decide), R.nam.keep S (by decide), R.bod.keep S (by decide), fun e => (R.run e).keep S (by decide), R.mar.keep S (by decide) (by decide)⟩, h1, h2.trans R.lab⟩, fr_of (by decide) S, e1, relab_same⟩
  · rw [relab_id e2]
    subst e3
    exact ⟨R, Stay.refl, e1, e2⟩
theorem RAt.setAtt (R : RAt C H ρ A p m o k true) : RAt C H (relab ρ A.att 1) A p m o k false ∧ Fr ρ H (relab ρ A.att 1) H ∧ AttS H (relab ρ A.att 1) 1 A.att m.attrs := by
  obtain ⟨e1, kvs, e2, e3⟩ := R.att rfl
  have S : Stay (· ≠ 5) ρ H (relab ρ A.att 1) H := Stay.lab e1
  obtain ⟨h1, h2⟩ := S p _ R.ins (by rw [R.lab]; decide)
  refine ⟨⟨⟨R.tok.keep S (by decide) (by decide), tag_keep R.tag S (by decide) (by decide), fun e => (by cases e), R.nam.keep S (by decide), R.bod.keep S (by decide), fun e => (R.run e).keep S (by decide), R.mar.keep S (by decide) (by decide)⟩, h1, h2.trans R.lab⟩, fr_of (by decide) S, relab_same, kvs, e2, Paired.mapP e3 fun a b ⟨z1, x, z2, z3⟩ => ⟨z1, x, z2, z3.keep S (by decide)⟩⟩
theorem Paired.snoc {α β : Type} {F : α → β → Prop} : ∀ {l₁ : List α} {l₂ : List β} {a : α} {b : β}, Paired F l₁ l₂ → F a b → Paired F (l₁ ++ [a]) (l₂ ++ [b])
  | _, _, _, _, .nil, h => .cons h .nil
  | _, _, _, _, .cons r t, h => .cons r (Paired.snoc t h)
theorem Paired.len {α β : Type} {F : α → β → Prop} : ∀ {l₁ : List α} {l₂ : List β}, Paired F l₁ l₂ → l₁.length = l₂.length
  | _, _, .nil => rfl
  | _, _, .cons _ t => by show _ + 1 = _ + 1; rw [Paired.len t]
theorem RAt.pushTok (R : RAt C H ρ A p m o k j) {vs : List V} {v : V} {t : Token} (hv : H A.tok = some (.lst vs)) (ht : TokP C H ρ v t) :
    RAt C (upd H A.tok (.lst (vs ++ [v]))) ρ A p { m with tokens := m.tokens ++ [t] } o k j ∧ Fr ρ H ρ (upd H A.tok (.lst (vs ++ [v]))) := by
  obtain ⟨e1, vs', e2, e3⟩ := R.tok
  rw [hv] at e2
  obtain rfl : vs = vs' := by injection e2 with e2; injection e2
  have S : Stay (· ≠ 3) ρ H ρ (upd H A.tok (.lst (vs ++ [v]))) := Stay.chg e1
  obtain ⟨h1, h2⟩ := S p _ R.ins (by rw [R.lab]; decide)
  refine ⟨⟨⟨⟨e1, _, upd_same, Paired.snoc (Paired.mapP e3 fun a b z => z.keep S (by decide)) (ht.keep S (by decide))⟩, tag_keep R.tag S (by decide) (by decide), fun e => (R.att e).keep S (by decide) (by decide), R.nam.keep S (by decide), R.bod.keep S (by decide), fun e => (R.run e).keep S (by decide), R.mar.keep S (by decide) (by decide)⟩, h1, R.lab⟩, fr_of (by decide) S⟩
theorem RAt.pushMar (R : RAt C H ρ A p m o k j) {vs : List V} {v : V} {t : Nat × Nat} (hv : H A.mar = some (.lst vs)) (ht : MarP H ρ v t) :
    RAt C (upd H A.mar (.lst (vs ++ [v]))) ρ A p { m with marks := m.marks ++ [t] } o k j ∧ Fr ρ H ρ (upd H A.mar (.lst (vs ++ [v]))) := by
  obtain ⟨e1, vs', e2, e3⟩ := R.mar
  rw [hv] at e2
  obtain rfl : vs = vs' := by injection e2 with e2; injection e2
  have S : Stay (· ≠ 9) ρ H ρ (upd H A.mar (.lst (vs ++ [v]))) := Stay.chg e1
  obtain ⟨h1, h2⟩ := S p _ R.ins (by rw [R.lab]; decide)
  have mk : ∀ a b, MarP H ρ a b → MarP (upd H A.mar (.lst (vs ++ [v]))) ρ a b := fun a b ⟨x, z1, z2, z3⟩ => by
    obtain ⟨r1, r2⟩ := S x _ z2 (by rw [z3]; decide)
    exact ⟨x, z1, r1, z3⟩
  refine ⟨⟨⟨R.tok.keep S (by decide) (by decide), tag_keep R.tag S (by decide) (by decide), fun e => (R.att e).keep S (by decide) (by decide), R.nam.keep S (by decide), R.bod.keep S (by decide), fun e => (R.run e).keep S (by decide), e1, _, upd_same, Paired.snoc (Paired.mapP e3 mk) (mk _ _ ht)⟩, h1, R.lab⟩, fr_of (by decide) S⟩
theorem isTwice_val {kvs : List (List Key × V)} : ∀ {as : List (Text × Text)} {t : Text}, Paired (AttP H ρ) kvs as → (as.any fun a => a.1 == t) = (valV kvs (keys t)).isSome := by
  induction kvs with
  | nil => intro as t h; cases h; rfl
  | cons q kvs ih =>
    intro as t h
    cases h with
    | @cons _ a _ as h1 h2 =>
      have ih := ih (t := t) h2
      by_cases e : a.1 = t
      · rw [valV_pos (by rw [h1.1, e]), List.any_cons, beq_iff_eq.mpr e]; rfl
      · rw [valV_neg (fun z => e (keys_inj (h1.1.symm.trans z))), List.any_cons, beq_eq_false_iff_ne.mpr e, ih]; rfl
theorem putK_new {κ : Type} [DecidableEq κ] {kvs : List (κ × V)} {k : κ} {v : V} (h : valV kvs k = none) : putK kvs k v = kvs ++ [(k, v)] := by
  unfold putK
  rw [valV_any, h]
  rfl
theorem RAt.putAtt (R : RAt C H ρ A p m o k true) {kvs : List (List Key × V)} {x : Addr} {t u : Text} (hd : H A.att = some (.dT kvs)) (hx : NatS H ρ 1 x u) (htw : (m.attrs.any fun a => a.1 == t) = false) :
    RAt C (upd H A.att (.dT (putK kvs (keys t) (.ref x)))) ρ A p { m with attrs := m.attrs ++ [(t, u)] } o k true ∧ Fr ρ H ρ (upd H A.att (.dT (putK kvs (keys t) (.ref x)))) := by
  obtain ⟨e1, kvs', e2, e3⟩ := R.att rfl
  rw [hd] at e2
  obtain rfl : kvs = kvs' := by injection e2 with e2; injection e2
  rw [isTwice_val e3] at htw
  have hn : valV kvs (keys t) = none := by
    cases q : valV kvs (keys t) with
    | none => rfl
    | some _ => rw [q] at htw; cases htw
  rw [putK_new hn]
  have S : Stay (· ≠ 5) ρ H ρ (upd H A.att (.dT (kvs ++ [(keys t, .ref x)]))) := Stay.chg e1
  obtain ⟨h1, h2⟩ := S p _ R.ins (by rw [R.lab]; decide)
  refine ⟨⟨⟨R.tok.keep S (by decide) (by decide), tag_keep R.tag S (by decide) (by decide), fun _ => ⟨e1, _, upd_same, Paired.snoc (Paired.mapP e3 fun a b ⟨z1, y, z2, z3⟩ => ⟨z1, y, z2, z3.keep S (by decide)⟩) ⟨rfl, x, rfl, hx.keep S (by decide)⟩⟩, R.nam.keep S (by decide), R.bod.keep S (by decide), fun e => (R.run e).keep S (by decide), R.mar.keep S (by decide) (by decide)⟩, h1, R.lab⟩, fr_of (by decide) S⟩
end
def spM (C : Cl) (n : Nat) (rel : List V → Reader → Reader → Prop) : Sp := fun vs H Q _ => ∃ p as ρ m m', vs = .ref p :: as ∧ as.length = n ∧ Wh C ρ H p m H ∧ rel as m m' ∧ ∀ H', Wh C ρ H p m' H' → Q .non H'
theorem spM_len {C : Cl} {n : Nat} {rel : List V → Reader → Reader → Prop} : ∀ vs H Q E, spM C n rel vs H Q E → vs.length = n + 1 := by
  rintro vs H Q E ⟨p, as, ρ, m, m', rfl, h, _⟩
  rw [List.length_cons, h]
def spA (C : Cl) (n : Nat) (o' : Bool) (rel : List V → Reader → Reader → Prop) : Sp := fun vs H Q _ => ∃ p as ρ m m' o, vs = .ref p :: as ∧ as.length = n ∧ At C ρ H p m o true true H ∧ rel as m m' ∧ ∀ H', At C ρ H p m' o' true true H' → Q .non H'
theorem spA_len {C : Cl} {n : Nat} {o' : Bool} {rel : List V → Reader → Reader → Prop} : ∀ vs H Q E, spA C n o' rel vs H Q E → vs.length = n + 1 := by
  rintro vs H Q E ⟨p, as, ρ, m, m', o, rfl, h, _⟩
  rw [List.length_cons, h]
section
variable {K : PySem.W.Frag} {C : Cl} {H H0 : Hp} {ρ ρ0 : Lab} {p : Addr} {m m' : Reader} {o o' k j : Bool} {σ : L2.St} {D : Ends} {i n : Nat} {as : List V} {t : TA} {nm : Str} {rel : List V → Reader → Reader → Prop}
theorem At.here (a : At C ρ0 H0 p m o k j H) : ∃ ρ, At C ρ H p m o k j H ∧ Fr ρ0 H0 ρ H := by
  obtain ⟨ρ, A, R, F⟩ := a
  exact ⟨ρ, ⟨ρ, A, R, Stay.refl⟩, F⟩
theorem Wh.call (a : Wh C ρ0 H0 p m H) (hp : σ[i]? = some (some (.ref p))) (ha : ∀ Q : List V → Hp → Prop, Q as H → t σ H Q) (r : rel as m m') (hn : as.length = n) (h : ∀ H', Wh C ρ0 H0 p m' H' → D.nx σ H') : tDrop (tCall (spM C n rel) [] E0 (tCons (tVar i) t)) D σ H := by
  obtain ⟨o, a, ho⟩ := a
  obtain ⟨ρ, a, F⟩ := a.here
  refine ⟨_, hp, ha _ ?_⟩
  exact ⟨p, as, ρ, m, m', by rw [List.append_nil], hn, ⟨o, a, ho⟩, r, fun H' w => h H' (w.trans F)⟩
theorem Wh.meth (a : Wh C ρ0 H0 p m H) (hp : σ[i]? = some (some (.ref p))) (ha : ∀ Q : List V → Hp → Prop, Q as H → t σ H Q) (r : rel as m m') (hn : as.length = n) (hnm : ∀ m A, (rf m A).lookup nm = none) (h : ∀ H', Wh C ρ0 H0 p m' H' → D.nx σ H') :
    tDrop (tMeth C.rdr nm (spM C n rel) [] E0 (tVar i) t) D σ H := by
  obtain ⟨o, a, ho⟩ := a
  obtain ⟨ρ, A, R, F⟩ := a
  refine ⟨_, hp, p, A.dx, _, rfl, R.ins, hnm _ _, ha _ ?_⟩
  exact ⟨p, as, ρ, m, m', by rw [List.append_nil], hn, ⟨o, ⟨ρ, A, R, Stay.refl⟩, ho⟩, r, fun H' w => h H' (w.trans F)⟩
theorem At.meth (a : At C ρ0 H0 p m o true true H) (hp : σ[i]? = some (some (.ref p))) (ha : ∀ Q : List V → Hp → Prop, Q as H → t σ H Q) (r : rel as m m') (hn : as.length = n) (hnm : ∀ m A, (rf m A).lookup nm = none) (h : ∀ H', At C ρ0 H0 p m' o' true true H' → D.nx σ H') :
    tDrop (tMeth C.rdr nm (spA C n o' rel) [] E0 (tVar i) t) D σ H := by
  obtain ⟨ρ, A, R, F⟩ := a
  refine ⟨_, hp, p, A.dx, _, rfl, R.ins, hnm _ _, ha _ ?_⟩
  exact ⟨p, as, ρ, m, m', o, by rw [List.append_nil], hn, ⟨ρ, A, R, Stay.refl⟩, r, fun H' w => h H' (w.trans F)⟩
theorem Wh.s_mode {tv : TE} (T : Txt K C) (a : Wh C ρ0 H0 p m H) (mo : Mode) (hp : σ[i]? = some (some (.ref p))) (hv : ∀ Q : VK, Q (.int (mo.code : Int)) H → tv σ H Q) (h1 : mo ≠ .openName) (h2 : mo ≠ .closeName) (h : ∀ H', Wh C ρ0 H0 p (m.go mo) H' → D.nx σ H') : sFld K (tVar i) tv "mode" D σ H := by
  obtain ⟨o, a, _⟩ := a
  exact a.s_mode T mo hp hv fun H' a' => h H' (a'.whN h1 h2)
theorem Wh.s_runApp {te : TE} (T : Txt K C) (a : Wh C ρ0 H0 p m H) (c : Nat) (hp : σ[i]? = some (some (.ref p))) (hv : ∀ Q : VK, Q (.int (c : Int)) H → te σ H Q) (hz : m.run.length < sizeLine) (h : ∀ H', Wh C ρ0 H0 p (m.add [c]) H' → D.nx σ H') :
    tDrop (tBM K "list" rAppend (tFld K (tVar i) "run") (tCons te tNil)) D σ H := by
  obtain ⟨o, a, ho⟩ := a
  exact a.s_runApp T c hp hv hz fun H' a' => h H' (a'.wh ho)
theorem Wh.s_runExt {ta : TA} (T : Txt K C) (a : Wh C ρ0 H0 p m H) (u : Text) (hp : σ[i]? = some (some (.ref p))) (hv : ∀ Q : List V → Hp → Prop, Q (nats u) H → ta σ H Q) (hz : m.run.length + u.length ≤ sizeLine) (h : ∀ H', Wh C ρ0 H0 p (m.add u) H' → D.nx σ H') :
    tDrop (tBM K "list" rExtend (tFld K (tVar i) "run") (tCons (tLst ta) tNil)) D σ H := by
  obtain ⟨o, a, ho⟩ := a
  exact a.s_runExt T u hp hv hz fun H' a' => h H' (a'.wh ho)
theorem Wh.s_bodApp {te : TE} (T : Txt K C) (a : Wh C ρ0 H0 p m H) (c : Nat) (hp : σ[i]? = some (some (.ref p))) (hv : ∀ Q : VK, Q (.int (c : Int)) H → te σ H Q) (hz : m.body.length < sizeLine) (h : ∀ H', Wh C ρ0 H0 p { m with body := m.body ++ [c] } H' → D.nx σ H') :
    tDrop (tBM K "list" rAppend (tFld K (tVar i) "body") (tCons te tNil)) D σ H := by
  obtain ⟨o, a, ho⟩ := a
  exact a.s_bodApp T c hp hv hz fun H' a' => h H' (a'.wh ho)
end
end Hr
end
section
set_option Elab.async false
set_option linter.all false
set_option maxRecDepth 100000
set_option maxHeartbeats 2000000
namespace Mr
open PySem PySem.Spec PyProof.Rows L2 Hr
open Vaesca (Text Token Reader Mode Home)
abbrev CB (B : Adr) : Cl := ⟨B.C_Token, B.C_Reader⟩
section
variable {P : Program} {w : World} {K : PySem.W.Frag} {mg : Str → Option Value} {base : Heap} {B : Adr}
theorem Tx.t (T : Tx P w K mg B) : Txt K (CB B) :=
  ⟨T.cl_Token, T.cl_Reader, T.at_kind, T.at_place, T.at_signs, T.at_attributes, T.at_ended, T.ar_mode, T.ar_read_count, T.ar_fault_kind, T.ar_fault_place, T.ar_tokens, T.ar_token_place, T.ar_tag_name, T.ar_attributes, T.ar_attribute_name, T.ar_body, T.ar_run, T.ar_marks⟩
def spTok (C : Cl) : Sp := fun vs H Q _ => ∃ (p dx s d : Addr) (kd pl e : Int), vs = [.ref p, .int kd, .int pl, .ref s, .ref d, .int e] ∧ H p = some (.ins C.tok dx []) ∧
  ∀ H', H' p = some (.ins C.tok dx (tfs kd pl s d e)) → (∀ b o, H b = some o → b ≠ p → H' b = some o) → Q .non H'
theorem D_Token_init (T : Tx P w K mg B) : InitOk P w K mg base B.C_Token B.f_Token_init 1 ["self", "kind", "place", "signs", "attributes", "ended"] (spTok (CB B)) := by
  refine mkInit T.mk_Token T.f_Token_init sc_Token_init ?_ fun cdv A outer s H vs Q E hr h => ?_
  · rintro vs H Q E ⟨p, dx, s, d, kd, pl, e, rfl, _⟩
    rfl
  obtain ⟨p, dx, s, d, kd, pl, e, rfl, hp, k⟩ := h
  have T' := T.t
  refine ⟨_, (pss_cons (ps_fld (pv 0) (pv 1) rfl) (pss_cons (ps_fld (pv 0) (pv 2) rfl) (pss_cons (ps_fld (pv 0) (pv 3) rfl) (pss_cons (ps_fld (pv 0) (pv 4) rfl) (pss_one (ps_fld (pv 0) (pv 5) rfl)))))), ?_⟩
  refine ⟨_, rfl, _, rfl, p, B.C_Token, dx, _, rfl, hp, T'.clT, T'.t1, (by decide), ?_⟩
  refine ⟨_, rfl, _, rfl, p, B.C_Token, dx, _, rfl, upd_same, T'.clT, T'.t2, (by show 1 < 1000; decide), ?_⟩
  refine ⟨_, rfl, _, rfl, p, B.C_Token, dx, _, rfl, upd_same, T'.clT, T'.t3, (by show 2 < 1000; decide), ?_⟩
  refine ⟨_, rfl, _, rfl, p, B.C_Token, dx, _, rfl, upd_same, T'.clT, T'.t4, (by show 3 < 1000; decide), ?_⟩
  refine ⟨_, rfl, _, rfl, p, B.C_Token, dx, _, rfl, upd_same, T'.clT, T'.t5, (by show 4 < 1000; decide), ?_⟩
  exact k _ upd_same fun b ob e hb => by rw [upd_ne hb, upd_ne hb, upd_ne hb, upd_ne hb, upd_ne hb]; exact e
def Pend (C : Cl) (ρ0 : Lab) (H0 : Hp) (p dx : Addr) (fs : List (Str × V)) (L : List (Addr × Nat × HO)) (ρ : Lab) (H : Hp) : Prop :=
  H p = some (.ins C.rdr dx fs) ∧ ρ p = 2 ∧ Fr ρ0 H0 ρ H ∧ ∀ x ∈ L, H x.1 = some x.2.2 ∧ ρ x.1 = x.2.1 ∧ x.2.1 ≠ 2
section
variable {C : Cl} {ρ0 ρ : Lab} {H0 H : Hp} {p dx : Addr} {fs fs' : List (Str × V)} {L : List (Addr × Nat × HO)} {σ : L2.St} {D : Ends} {f : Str} {tv : TE}
theorem Pend.set (h : Pend C ρ0 H0 p dx fs L ρ H) : Pend C ρ0 H0 p dx fs' L ρ (upd H p (.ins C.rdr dx fs')) := by
  obtain ⟨h1, h2, h3, h4⟩ := h
  have S : Stay (· ≠ 2) ρ H ρ (upd H p (.ins C.rdr dx fs')) := Stay.chg h2
  refine ⟨upd_same, h2, h3.trans (fr_of (by decide) S), fun x hx => ?_⟩
  obtain ⟨e1, e2, e3⟩ := h4 x hx
  obtain ⟨q1, q2⟩ := S x.1 _ e1 (by rw [e2]; exact e3)
  exact ⟨q1, e2, e3⟩
theorem Pend.new {l : Addr} {ob : HO} (n : Nat) (hn : n ≠ 2) (h : Pend C ρ0 H0 p dx fs L ρ H) (hl : H l = none) : Pend C ρ0 H0 p dx fs ((l, n, ob) :: L) (relab ρ l n) (upd H l ob) := by
  obtain ⟨h1, h2, h3, h4⟩ := h
  have S : Stay (fun _ => True) ρ H (relab ρ l n) (upd H l ob) := Stay.new hl
  obtain ⟨a1, a2⟩ := S p _ h1 trivial
  refine ⟨a1, a2.trans h2, h3.trans (S.sub fun _ _ => trivial), fun x hx => ?_⟩
  rcases List.mem_cons.mp hx with e | hx
  · rw [e]
    exact ⟨upd_same, relab_same, hn⟩
  · obtain ⟨e1, e2, e3⟩ := h4 x hx
    obtain ⟨q1, q2⟩ := S x.1 _ e1 trivial
    exact ⟨q1, q2.trans e2, e3⟩
theorem Pend.s_int {v : V} (h : Pend C ρ0 H0 p dx fs L ρ H) (cl : Cls K C.rdr) (na : NoAttr K C.rdr f) (hp : σ[0]? = some (some (.ref p))) (hl : fs.length < 1000) (k : ∀ H', Pend C ρ0 H0 p dx (putF f v fs) L ρ H' → D.nx σ H') : sFld K (tVar 0) (tC v) f D σ H :=
  ⟨_, hp, p, C.rdr, dx, _, rfl, h.1, cl, na, hl, k _ h.set⟩
theorem Pend.s_lst (n : Nat) (hn : n ≠ 2) (h : Pend C ρ0 H0 p dx fs L ρ H) (cl : Cls K C.rdr) (na : NoAttr K C.rdr f) (hp : σ[0]? = some (some (.ref p))) (hl : fs.length < 1000)
    (k : ∀ H' ρ' l, Pend C ρ0 H0 p dx (putF f (.ref l) fs) ((l, n, .lst []) :: L) ρ' H' → D.nx σ H') : sFld K (tVar 0) (tLst tNil) f D σ H :=
  ⟨Nat.zero_le _, fun l hl' => ⟨_, hp, p, C.rdr, dx, _, rfl, (h.new (ob := .lst []) n hn hl').1, cl, na, hl, k _ _ l (h.new n hn hl').set⟩⟩
theorem Pend.s_dct (n : Nat) (hn : n ≠ 2) (h : Pend C ρ0 H0 p dx fs L ρ H) (cl : Cls K C.rdr) (na : NoAttr K C.rdr f) (hp : σ[0]? = some (some (.ref p))) (hl : fs.length < 1000)
    (k : ∀ H' ρ' l, Pend C ρ0 H0 p dx (putF f (.ref l) fs) ((l, n, .dT []) :: L) ρ' H' → D.nx σ H') : sFld K (tVar 0) tDNewT f D σ H :=
  fun l hl' => ⟨_, hp, p, C.rdr, dx, _, rfl, (h.new (ob := .dT []) n hn hl').1, cl, na, hl, k _ _ l (h.new n hn hl').set⟩
end
def spRenew (C : Cl) : Sp := fun vs H Q _ => ∃ (p dx : Addr) (ρ : Lab) (fs : List (Str × V)), vs = [.ref p] ∧ H p = some (.ins C.rdr dx fs) ∧ ρ p = 2 ∧ (fs = [] ∨ ∃ m A, fs = rf m A) ∧ ∀ H', Wh C ρ H p Vaesca.fresh H' → Q .non H'
theorem spRenew_len {C : Cl} : ∀ vs H Q E, spRenew C vs H Q E → vs.length = 1 := by
  rintro vs H Q E ⟨p, dx, ρ, fs, rfl, _⟩
  rfl
theorem D_Reader_renew (T : Tx P w K mg B) : MethOk P w K mg base B.C_Reader "renew" B.f_Reader_renew 1 ["self"] (spRenew (CB B)) := by
  refine mkMeth T.f_Reader_renew sc_Reader_renew spRenew_len fun cdv A outer s H vs Q E hr h => ?_
  obtain ⟨p, dx, ρ, fs, rfl, hp, hl, hf, k⟩ := h
  have T' := T.t
  refine ⟨_, (pss_cons (ps_fld (pv 0) (pgc T.c_TEXT) rfl) (pss_cons (ps_fld (pv 0) pe_int rfl) (pss_cons (ps_fld (pv 0) pe_int rfl) (pss_cons (ps_fld (pv 0) pe_int rfl) (pss_cons (ps_fld (pv 0) (pe_lst pa_nil) rfl) (pss_cons (ps_fld (pv 0) pe_int rfl) (pss_cons (ps_fld (pv 0) (pe_lst pa_nil) rfl) (pss_cons (ps_fld (pv 0) pe_dnewT rfl) (pss_cons (ps_fld (pv 0) (pe_lst pa_nil) rfl) (pss_cons (ps_fld (pv 0) (pe_lst pa_nil) rfl) (pss_cons (ps_fld (pv 0) (pe_lst pa_nil) rfl) (pss_one (ps_fld (pv 0) (pe_lst pa_nil) rfl))))))))))))), ?_⟩
  have p0 : Pend (CB B) ρ H p dx fs [] ρ H := ⟨hp, hl, Stay.refl, fun x hx => by cases hx⟩
  have small : fs.length ≤ 12 := by
    rcases hf with e | ⟨m, A, e⟩
    · rw [e]; decide
    · rw [e]; exact Nat.le_refl 12
  have sm : ∀ {f : Str} {v : V} {fs : List (Str × V)} {n : Nat}, fs.length ≤ n → (putF f v fs).length ≤ n + 1 := fun h => Nat.le_trans (length_putF _ _ _) (Nat.succ_le_succ h)
  refine p0.s_int T'.clR T'.r1 rfl (Nat.lt_of_le_of_lt small (by decide)) fun H1 p1 => ?_
  refine p1.s_int T'.clR T'.r2 rfl (Nat.lt_of_le_of_lt (sm small) (by decide)) fun H2 p2 => ?_
  refine p2.s_int T'.clR T'.r3 rfl (Nat.lt_of_le_of_lt (sm (sm small)) (by decide)) fun H3 p3 => ?_
  refine p3.s_int T'.clR T'.r4 rfl (Nat.lt_of_le_of_lt (sm (sm (sm small))) (by decide)) fun H4 p4 => ?_
  refine p4.s_lst 3 (by decide) T'.clR T'.r5 rfl (Nat.lt_of_le_of_lt (sm (sm (sm (sm small)))) (by decide)) fun H5 ρ5 l5 p5 => ?_
  refine p5.s_int T'.clR T'.r6 rfl (Nat.lt_of_le_of_lt (sm (sm (sm (sm (sm small))))) (by decide)) fun H6 p6 => ?_
  refine p6.s_lst 4 (by decide) T'.clR T'.r7 rfl (Nat.lt_of_le_of_lt (sm (sm (sm (sm (sm (sm small)))))) (by decide)) fun H7 ρ7 l7 p7 => ?_
  refine p7.s_dct 5 (by decide) T'.clR T'.r8 rfl (Nat.lt_of_le_of_lt (sm (sm (sm (sm (sm (sm (sm small))))))) (by decide)) fun H8 ρ8 l8 p8 => ?_
  refine p8.s_lst 6 (by decide) T'.clR T'.r9 rfl (Nat.lt_of_le_of_lt (sm (sm (sm (sm (sm (sm (sm (sm small)))))))) (by decide)) fun H9 ρ9 l9 p9 => ?_
  refine p9.s_lst 7 (by decide) T'.clR T'.r10 rfl (Nat.lt_of_le_of_lt (sm (sm (sm (sm (sm (sm (sm (sm (sm small))))))))) (by decide)) fun H10 ρ10 l10 p10 => ?_
  refine p10.s_lst 8 (by decide) T'.clR T'.r11 rfl (Nat.lt_of_le_of_lt (sm (sm (sm (sm (sm (sm (sm (sm (sm (sm small)))))))))) (by decide)) fun H11 ρ11 l11 p11 => ?_
  refine p11.s_lst 9 (by decide) T'.clR T'.r12 rfl (Nat.lt_of_le_of_lt (sm (sm (sm (sm (sm (sm (sm (sm (sm (sm (sm small))))))))))) (by decide)) fun H12 ρ12 l12 p12 => ?_
  obtain ⟨a1, a2, a3, a4⟩ := p12
  have g := fun x hx => a4 x hx
  obtain ⟨c5, d5, _⟩ := a4 (l5, 3, .lst []) (by simp)
  obtain ⟨c7, d7, _⟩ := a4 (l7, 4, .lst []) (by simp)
  obtain ⟨c8, d8, _⟩ := a4 (l8, 5, .dT []) (by simp)
  obtain ⟨c9, d9, _⟩ := a4 (l9, 6, .lst []) (by simp)
  obtain ⟨c10, d10, _⟩ := a4 (l10, 7, .lst []) (by simp)
  obtain ⟨c11, d11, _⟩ := a4 (l11, 8, .lst []) (by simp)
  obtain ⟨c12, d12, _⟩ := a4 (l12, 9, .lst []) (by simp)
  refine k _ ⟨true, ⟨ρ12, ⟨dx, l5, l7, l8, l9, l10, l11, l12⟩, ⟨⟨⟨d5, [], c5, .nil⟩, ⟨c7, .inl d7⟩, fun _ => ⟨d8, [], c8, .nil⟩, ⟨c9, d9⟩, ⟨c10, d10⟩, fun _ => ⟨c11, d11⟩, d12, [], c12, .nil⟩, ?_, a2⟩, a3⟩, fun _ => rfl⟩
  rw [a1]
  rcases hf with e | ⟨m, A, e⟩
  · rw [e]; rfl
  · rw [e]; rfl
def spInit (C : Cl) : Sp := fun vs H Q _ => ∃ (p dx : Addr) (ρ : Lab), vs = [.ref p] ∧ H p = some (.ins C.rdr dx []) ∧ ρ p = 2 ∧ ∀ H', Wh C ρ H p Vaesca.fresh H' → Q .non H'
theorem D_Reader_init (T : Tx P w K mg B) : InitOk P w K mg base B.C_Reader B.f_Reader_init 2 ["self"] (spInit (CB B)) := by
  have D_Reader_renew := D_Reader_renew (base := base) T
  refine mkInit T.mk_Reader T.f_Reader_init sc_Reader_init ?_ fun cdv A outer s H vs Q E hr h => ?_
  · rintro vs H Q E ⟨p, dx, ρ, rfl, _⟩
    rfl
  obtain ⟨p, dx, ρ, rfl, hp, hl, k⟩ := h
  refine ⟨_, (pss_one (ps_expr (pmeth0 (pv 0) T.cl_Reader D_Reader_renew (hr.mono (by decide))))), ?_⟩
  exact ⟨_, rfl, p, dx, _, rfl, hp, rfl, p, dx, ρ, [], rfl, hp, hl, .inl rfl, k⟩
theorem D_Reader_fail (T : Tx P w K mg B) : MethOk P w K mg base B.C_Reader "fail" B.f_Reader_fail 1 ["self", "kind"] (spM (CB B) 1 fun as m m' => ∃ kd : Nat, as = [.int (kd : Int)] ∧ m' = m.fail kd) := by
  refine mkMeth T.f_Reader_fail sc_Reader_fail spM_len fun cdv A outer s H vs Q E hr h => ?_
  obtain ⟨p, as, ρ, m, m', rfl, _, ⟨o, a, _⟩, ⟨kd, rfl, rfl⟩, k⟩ := h
  refine ⟨_, (pss_cons (ps_fld (pv 0) (pgc T.c_FAULTY) rfl) (pss_cons (ps_fld (pv 0) (pv 1) rfl) (pss_one (ps_fld (pv 0) (pe_fld (pv 0) rfl) rfl)))), ?_⟩
  refine a.s_mode T.t .fault rfl (fun Q q => q) fun H1 a1 => ?_
  try dsimp only [tSeq]
  refine a1.s_kind T.t kd ?_ ?_ fun H2 a2 => ?_
  · rfl
  · exact fun Q q => ⟨_, rfl, q⟩
  obtain ⟨ρ2, A2, R2, F2⟩ := id a2
  try dsimp only [tSeq]
  refine a2.s_place T.t m.count ?_ ?_ fun H3 a3 => ?_
  · rfl
  · exact fun Q q => R2.g_count T.t rfl q
  exact k H3 (a3.whN (by intro z; cases z) (by intro z; cases z))
end
end Mr
end
section
set_option Elab.async false
set_option linter.all false
set_option maxRecDepth 100000
set_option maxHeartbeats 2000000
namespace Mr
open PySem PySem.Spec PyProof.Rows L2 Hr
open Vaesca (Text Token Reader Mode Home)
def tokOf (kd p : Nat) (s : Text) : Token := if kd = 0 then .text p s else if kd = 2 then .closed p s else if kd = 3 then .comment p s else .raw p s
theorem tokOf_is {kd : Nat} (h : kd = 0 ∨ kd = 2 ∨ kd = 3 ∨ kd = 4) (p : Nat) (s : Text) : tokKind (tokOf kd p s) = kd ∧ tokPlace (tokOf kd p s) = p ∧ tokSigns (tokOf kd p s) = s ∧ tokAttrs (tokOf kd p s) = [] ∧ tokEnded (tokOf kd p s) = 0 := by
  rcases h with rfl | rfl | rfl | rfl <;> exact ⟨rfl, rfl, rfl, rfl, rfl⟩
def spAdd (C : Cl) : Sp := fun vs H Q _ => ∃ (p s : Addr) (kd bh : Nat) (ρ : Lab) (A : Ad) (m : Reader) (o k j : Bool), vs = [.ref p, .int (kd : Int), .ref s, .int (bh : Int)] ∧ RAt C H ρ A p m o k j ∧ (kd = 0 ∨ kd = 2 ∨ kd = 3 ∨ kd = 4) ∧ m.tokens.length < sizeLine ∧
  ((s = A.run ∧ k = true ∧ ∀ H', At C ρ H p { m with tokens := m.tokens ++ [tokOf kd m.from_ m.run], from_ := bh } o false j H' → Q .non H') ∨ (s = A.tag ∧ ∀ H', At C ρ H p { m with tokens := m.tokens ++ [tokOf kd m.from_ m.tag], from_ := bh } false k j H' → Q .non H'))
section
variable {P : Program} {w : World} {K : PySem.W.Frag} {mg : Str → Option Value} {base : Heap} {B : Adr}
theorem D_Reader_add_token (T : Tx P w K mg B) : MethOk P w K mg base B.C_Reader "add_token" B.f_Reader_add_token 3 ["self", "kind", "signs", "place_behind"] (spAdd (CB B)) := by
  have D_Token_init := D_Token_init (base := base) T
  refine mkMeth T.f_Reader_add_token sc_Reader_add_token ?_ fun cdv A0 outer s0 H vs Q E hr h => ?_
  · rintro vs H Q E ⟨p, s, kd, bh, ρ, A, m, o, k, j, rfl, _⟩
    rfl
  obtain ⟨p, s, kd, bh, ρ, A, m, o, k, j, rfl, R, hkd, hz, fin⟩ := h
  refine ⟨_, (pss_cons (ps_expr (pe_bm PySem.F.plainAttrs_list PySem.F.slot_list_append PySem.F.type_list_append mt_append (pe_fld (pv 0) rfl) (pa_cons (pmake D_Token_init (hr.mono (by decide)) rfl T.g_Token (pa_cons (pv 1) (pa_cons (pe_fld (pv 0) rfl) (pa_cons (pv 2) (pa_cons pe_dnewT (pa_cons pe_int pa_nil)))))) pa_nil))) (pss_one (ps_fld (pv 0) (pv 3) rfl))), ?_⟩
  unfold tSeq tDrop tBM
  refine R.g_tok T.t rfl ?_
  obtain ⟨lt, vs, ht, pt⟩ := id R.tok
  refine ⟨.inl ⟨rfl, _, SqL.of ht⟩, _, rfl, R.g_tp T.t rfl ⟨_, rfl, fun d hd => ?_⟩⟩
  intro x dx hx hdx hne
  refine ⟨x, dx, s, d, kd, m.from_, 0, rfl, upd_same, fun H2 h2 k2 => ⟨rfl, ?_⟩⟩
  have hdn : d ≠ x := fun z => by rw [← z, upd_same] at hx; cases hx
  have hddx : d ≠ dx := fun z => by rw [← z, upd_same] at hdx; cases hdx
  have hx0 : H x = none := by rw [upd_ne (Ne.symm hdn)] at hx; exact hx
  have hdx0 : H dx = none := by rw [upd_ne (Ne.symm hddx)] at hdx; exact hdx
  have S : Same H H2 := fun b ob e => k2 b ob (by rw [upd_ne (ne_of_none e hx0), upd_ne (ne_of_none e hdx0), upd_ne (ne_of_none e hd)]; exact e) (ne_of_none e hx0)
  have hd2 : H2 d = some (.dT []) := k2 d _ (by rw [upd_ne hdn, upd_ne hddx, upd_same]) hdn
  obtain ⟨ρ1, S1, n1⟩ := Stay.same1 (ρ := ρ) S
  have R1 := R.keep S1 fun _ _ => trivial
  have ht1 : H2 A.tok = some (.lst vs) := S _ _ ht
  refine ⟨A.tok, vs, .ref x, rfl, rfl, ht1, by rw [Paired.len pt]; exact hz, ?_⟩
  obtain ⟨q1, q2, q3, q4, q5⟩ := tokOf_is hkd m.from_ m.run
  obtain ⟨u1, u2, u3, u4, u5⟩ := tokOf_is hkd m.from_ m.tag
  rcases fin with ⟨rfl, rfl, fin⟩ | ⟨rfl, fin⟩
  · obtain ⟨R2, F2, N2⟩ := R1.setRun
    have ne1 : x ≠ A.run := (ne_of_none (R.run rfl).1 hx0).symm
    have ne2 : d ≠ A.run := (ne_of_none (R.run rfl).1 hd).symm
    have tp : TokP (CB B) H2 (relab ρ1 A.run 1) (.ref x) (tokOf kd m.from_ m.run) := by
      refine ⟨x, dx, A.run, d, rfl, ?_, by rw [relab_ne ne1]; exact n1 _ hx0, ?_, ?_, ?_⟩
      · rw [q1, q2, q5]; exact h2
      · rw [q3]; exact N2
      · rw [relab_ne ne2]; exact n1 _ hd
      · rw [q4]; exact ⟨[], hd2, .nil⟩
    obtain ⟨R3, F3⟩ := R2.pushTok ht1 tp
    try dsimp only [tSeq]
    refine At.s_tp T.t ⟨_, A, R3, ((S1.sub fun _ _ => trivial).trans F2).trans F3⟩ bh ?_ ?_ fin
    · rfl
    · exact fun Q q => ⟨_, rfl, q⟩
  · obtain ⟨R2, F2, N2⟩ := R1.setTag
    have ne1 : x ≠ A.tag := (ne_of_none R.tag.1 hx0).symm
    have ne2 : d ≠ A.tag := (ne_of_none R.tag.1 hd).symm
    have tp : TokP (CB B) H2 (relab ρ1 A.tag 1) (.ref x) (tokOf kd m.from_ m.tag) := by
      refine ⟨x, dx, A.tag, d, rfl, ?_, by rw [relab_ne ne1]; exact n1 _ hx0, ?_, ?_, ?_⟩
      · rw [u1, u2, u5]; exact h2
      · rw [u3]; exact N2
      · rw [relab_ne ne2]; exact n1 _ hd
      · rw [u4]; exact ⟨[], hd2, .nil⟩
    obtain ⟨R3, F3⟩ := R2.pushTok ht1 tp
    try dsimp only [tSeq]
    refine At.s_tp T.t ⟨_, A, R3, ((S1.sub fun _ _ => trivial).trans F2).trans F3⟩ bh ?_ ?_ fin
    · rfl
    · exact fun Q q => ⟨_, rfl, q⟩
theorem D_Reader_end_run (T : Tx P w K mg B) : MethOk P w K mg base B.C_Reader "end_run" B.f_Reader_end_run 4 ["self", "kind", "place_behind"]
    (spM (CB B) 2 fun as m m' => ∃ kd bh : Nat, as = [.int (kd : Int), .int (bh : Int)] ∧ (kd = 0 ∨ kd = 3 ∨ kd = 4) ∧ m.tokens.length < sizeLine ∧ m' = { m with tokens := m.tokens ++ [tokOf kd m.from_ m.run], from_ := bh, run := [] }) := by
  have D_Reader_add_token := D_Reader_add_token (base := base) T
  refine mkMeth T.f_Reader_end_run sc_Reader_end_run spM_len fun cdv A0 outer s0 H vs Q E hr h => ?_
  obtain ⟨p, as, ρ, m, m', rfl, _, ⟨o, ⟨ρ1, A, R, F⟩, ho⟩, ⟨kd, bh, rfl, hkd, hz, rfl⟩, fin⟩ := h
  refine ⟨_, (pss_cons (ps_expr (pmeth (pv 0) T.cl_Reader D_Reader_add_token (hr.mono (by decide)) (pa_cons (pv 1) (pa_cons (pe_fld (pv 0) rfl) (pa_cons (pv 2) pa_nil))))) (pss_one (ps_fld (pv 0) (pe_lst pa_nil) rfl))), ?_⟩
  unfold tSeq tDrop
  refine ⟨_, rfl, p, A.dx, _, rfl, R.ins, rfl, _, rfl, R.g_run T.t rfl ⟨_, rfl, ?_⟩⟩
  refine ⟨p, A.run, kd, bh, ρ1, A, m, o, true, true, rfl, R, by rcases hkd with h | h | h <;> simp [h], hz, .inl ⟨rfl, rfl, fun H1 a1 => ?_⟩⟩
  try dsimp only [tSeq]
  refine At.s_run T.t (a1.trans F) [] ?_ ?_ fun H2 a2 => fin H2 (a2.wh ho)
  · rfl
  · exact fun Q q => ⟨Nat.zero_le _, q⟩
theorem D_Reader_end_tag (T : Tx P w K mg B) : MethOk P w K mg base B.C_Reader "end_tag" B.f_Reader_end_tag 1 ["self"] (spA (CB B) 0 true fun as m m' => as = [] ∧ m' = Mi.endTag m) := by
  refine mkMeth T.f_Reader_end_tag sc_Reader_end_tag spA_len fun cdv A0 outer s0 H vs Q E hr h => ?_
  obtain ⟨p, as, ρ, m, m', o, rfl, _, a, ⟨rfl, rfl⟩, fin⟩ := h
  refine ⟨_, (pss_cons (ps_fld (pv 0) (pe_lst pa_nil) rfl) (pss_one (ps_fld (pv 0) (pgc T.c_TEXT) rfl))), ?_⟩
  refine a.s_tag T.t [] ?_ ?_ fun H1 a1 => ?_
  · rfl
  · exact fun Q q => ⟨Nat.zero_le _, q⟩
  try dsimp only [tSeq]
  refine a1.s_mode T.t .text ?_ ?_ fin
  · rfl
  · exact fun Q q => q
theorem D_Reader_end_attribute (T : Tx P w K mg B) : MethOk P w K mg base B.C_Reader "end_attribute" B.f_Reader_end_attribute 1 ["self"]
    (spM (CB B) 0 fun as m m' => as = [] ∧ Vaesca.isTwice m = false ∧ m.attrs.length < sizeLine ∧ m' = Vaesca.endAttr m) := by
  refine mkMeth T.f_Reader_end_attribute sc_Reader_end_attribute spM_len fun cdv A0 outer s0 H vs Q E hr h => ?_
  obtain ⟨p, as, ρ, m, m', rfl, _, ⟨o, ⟨ρ1, A, R, F⟩, ho⟩, ⟨rfl, htw, hz, rfl⟩, fin⟩ := h
  refine ⟨_, (pss_cons (ps_dput (hu_of hr) (pe_fld (pv 0) rfl) (pe_callTy call_tuple_of rfl T.n_tuple boot_tuple (pa_cons (pe_fld (pv 0) rfl) pa_nil)) (pe_fld (pv 0) rfl) rfl) (pss_cons (ps_fld (pv 0) (pe_lst pa_nil) rfl) (pss_one (ps_fld (pv 0) (pe_lst pa_nil) rfl)))), ?_⟩
  unfold tSeq sDPut
  obtain ⟨la, kvs, hk, pk⟩ := id (R.att rfl)
  refine R.g_run T.t rfl (R.g_att T.t rfl ?_)
  unfold tCB tCons
  refine R.g_nam T.t rfl ⟨A.nam, _, rfl, .inl ⟨SqL.of R.nam.1, fun l hl => ?_⟩⟩
  have S : Same H (upd H l (.tup (nats m.attr))) := Same.upd hl
  obtain ⟨ρ2, S2, n2⟩ := Stay.same1 (ρ := ρ1) S
  have R2 := R.keep S2 fun _ _ => trivial
  obtain ⟨R3, F3, N3⟩ := R2.setRun
  have hk2 := S _ _ hk
  obtain ⟨R4, F4⟩ := R3.putAtt hk2 N3 htw
  refine ⟨A.att, _, rfl, DPut.t (k := keys m.attr) hk2 (by rw [keys_kV]; exact upd_same) (by rw [Paired.len pk]; exact hz), ?_⟩
  have a4 : At (CB B) ρ H p { m with attrs := m.attrs ++ [(m.attr, m.run)] } o false true _ := ⟨_, A, R4, (F.trans ((S2.sub fun _ _ => trivial).trans F3)).trans F4⟩
  try dsimp only [tSeq]
  refine a4.s_nam T.t [] ?_ ?_ fun H5 a5 => ?_
  · rfl
  · exact fun Q q => ⟨Nat.zero_le _, q⟩
  try dsimp only [tSeq]
  refine a5.s_run T.t [] ?_ ?_ fun H6 a6 => fin H6 (a6.wh ho)
  · rfl
  · exact fun Q q => ⟨Nat.zero_le _, q⟩
theorem D_Reader_add_open_tag (T : Tx P w K mg B) : MethOk P w K mg base B.C_Reader "add_open_tag" B.f_Reader_add_open_tag 3 ["self", "ended"]
    (spA (CB B) 1 false fun as m m' => ∃ e : Bool, as = [.int (if e then 1 else 0)] ∧ m.tokens.length < sizeLine ∧ m' = Mi.addOpen m e) := by
  have D_Token_init := D_Token_init (base := base) T
  refine mkMeth T.f_Reader_add_open_tag sc_Reader_add_open_tag spA_len fun cdv A0 outer s0 H vs Q E hr h => ?_
  obtain ⟨p, as, ρ, m, m', o, rfl, _, ⟨ρ1, A, R, F⟩, ⟨en, rfl, hz, rfl⟩, fin⟩ := h
  refine ⟨_, (pss_cons (ps_expr (pe_bm PySem.F.plainAttrs_list PySem.F.slot_list_append PySem.F.type_list_append mt_append (pe_fld (pv 0) rfl) (pa_cons (pmake D_Token_init (hr.mono (by decide)) rfl T.g_Token (pa_cons (pgc T.c_OPEN_TAG_TOKEN) (pa_cons (pe_fld (pv 0) rfl) (pa_cons (pe_fld (pv 0) rfl) (pa_cons (pe_fld (pv 0) rfl) (pa_cons (pv 1) pa_nil)))))) pa_nil))) (pss_cons (ps_fld (pv 0) (pe_op op_add (pe_fld (pv 0) rfl) pe_int) rfl) (pss_one (ps_fld (pv 0) pe_dnewT rfl)))), ?_⟩
  unfold tSeq tDrop tBM
  refine R.g_tok T.t rfl ?_
  obtain ⟨lt, vs, ht, pt⟩ := id R.tok
  refine ⟨.inl ⟨rfl, _, SqL.of ht⟩, ?_⟩
  dsimp only [tCons, tMake, tC]
  refine R.g_tp T.t rfl ?_
  refine R.g_tag T.t rfl ?_
  refine R.g_att T.t rfl ?_
  refine ⟨_, rfl, ?_⟩
  intro x dx hx hdx hne
  refine ⟨x, dx, A.tag, A.att, 1, m.from_, _, rfl, upd_same, fun H2 h2 k2 => ⟨rfl, ?_⟩⟩
  have S : Same H H2 := fun b ob e => k2 b ob (by rw [upd_ne (ne_of_none e hx), upd_ne (ne_of_none e hdx)]; exact e) (ne_of_none e hx)
  obtain ⟨ρ2, S1, n1⟩ := Stay.same1 (ρ := ρ1) S
  have R1 := R.keep S1 fun _ _ => trivial
  have ht1 : H2 A.tok = some (.lst vs) := S _ _ ht
  refine ⟨A.tok, vs, .ref x, rfl, rfl, ht1, by rw [Paired.len pt]; exact hz, ?_⟩
  obtain ⟨R2, F2, N2⟩ := R1.setTag
  obtain ⟨R3, F3, N3⟩ := R2.setAtt
  obtain ⟨la, kvs, hka, _⟩ := R.att rfl
  have ne1 : x ≠ A.tag := (ne_of_none R.tag.1 hx).symm
  have ne2 : x ≠ A.att := (ne_of_none hka hx).symm
  have net : A.tag ≠ A.att := ne_of R.tag.1 hka (by intro z; cases z)
  have tp : TokP (CB B) H2 (relab (relab ρ2 A.tag 1) A.att 1) (.ref x) (.opened m.from_ m.tag m.attrs en) := by
    refine ⟨x, dx, A.tag, A.att, rfl, ?_, by rw [relab_ne ne2, relab_ne ne1]; exact n1 _ hx, ⟨N2.1, by rw [relab_ne net]; exact N2.2⟩, N3⟩
    rw [h2]
    cases en <;> rfl
  obtain ⟨R4, F4⟩ := R3.pushTok ht1 tp
  have a4 : At (CB B) ρ H p { m with tokens := m.tokens ++ [.opened m.from_ m.tag m.attrs en] } false true false _ := ⟨_, A, R4, (F.trans (((S1.sub fun _ _ => trivial).trans F2).trans F3)).trans F4⟩
  obtain ⟨ρ5, A5, R5, F5⟩ := id a4
  try dsimp only [tSeq]
  refine a4.s_tp T.t (m.count + 1) ?_ ?_ fun H6 a6 => ?_
  · rfl
  · exact fun Q q => R5.g_count T.t rfl ⟨_, _, rfl, rfl, q⟩
  refine a6.s_att T.t ?_ fin
  rfl
theorem D_Reader_end_ended_tag (T : Tx P w K mg B) : MethOk P w K mg base B.C_Reader "end_ended_tag" B.f_Reader_end_ended_tag 4 ["self"] (spM (CB B) 0 fun as m m' => as = [] ∧ m.tokens.length < sizeLine ∧ m' = Mi.endEnded m) := by
  have D_Reader_add_open_tag := D_Reader_add_open_tag (base := base) T
  have D_Reader_end_tag := D_Reader_end_tag (base := base) T
  refine mkMeth T.f_Reader_end_ended_tag sc_Reader_end_ended_tag spM_len fun cdv A0 outer s0 H vs Q E hr h => ?_
  obtain ⟨p, as, ρ, m, m', rfl, _, ⟨o, a, ho⟩, ⟨rfl, hz, rfl⟩, fin⟩ := h
  refine ⟨_, (pss_cons (ps_expr (pmeth (pv 0) T.cl_Reader D_Reader_add_open_tag (hr.mono (by decide)) (pa_cons pe_int pa_nil))) (pss_one (ps_expr (pmeth0 (pv 0) T.cl_Reader D_Reader_end_tag (hr.mono (by decide)))))), ?_⟩
  try dsimp only [tSeq]
  refine a.meth ?_ (as := [.int 1]) ?_ ⟨true, rfl, hz, rfl⟩ rfl (fun _ _ => rfl) fun H1 a1 => ?_
  · rfl
  · exact fun Q q => q
  refine a1.meth ?_ (as := []) ?_ ⟨rfl, rfl⟩ rfl (fun _ _ => rfl) fun H2 a2 => fin H2 (a2.whN (by intro z; cases z) (by intro z; cases z))
  · rfl
  · exact fun Q q => q
def dN (t : Text) : List PyData := t.map fun (n : Nat) => PyData.int (n : Int)
theorem dN_all {K : PySem.W.Frag} {H : Hp} : ∀ t : Text, DpAll K H (nats t) (dN t)
  | [] => .nil
  | n :: t => .cons (.int (n : Int)) (dN_all t)
theorem dN_eqv : ∀ a b : Text, PyData.eqvAll (dN a) (dN b) = (a == b)
  | [], [] => by rw [show dN [] = [] from rfl, PyData.eqvAll]; rfl
  | [], _ :: _ => by rw [show dN [] = [] from rfl]; unfold dN; rw [List.map_cons, PyData.eqvAll]; rfl
  | _ :: _, [] => by rw [show dN [] = [] from rfl]; unfold dN; rw [List.map_cons, PyData.eqvAll]; rfl
  | x :: a, y :: b => by
    show PyData.eqvAll (PyData.int (x : Int) :: dN a) (PyData.int (y : Int) :: dN b) = _
    rw [PyData.eqvAll, dN_eqv a b, PyData.eqv, List.cons_beq_cons]
    congr 1
    by_cases h : x = y
    · subst h; simp
    · have h' : ¬ ((x : Int) = (y : Int)) := fun z => h (Int.ofNat.inj z)
      rw [beq_eq_false_iff_ne.mpr h, beq_eq_false_iff_ne.mpr h']
theorem dN_can : ∀ t : Text, PyData.canLayAll0 (dN t) = true
  | [] => by rw [show dN [] = [] from rfl, PyData.canLayAll0]
  | n :: t => by
    show PyData.canLayAll0 (PyData.int (n : Int) :: dN t) = true
    rw [PyData.canLayAll0, dN_can t, PyData.canLay0]; rfl
theorem dN_depth : ∀ t : Text, PyData.depthAll (dN t) = 0
  | [] => by rw [show dN [] = [] from rfl, PyData.depthAll]
  | n :: t => by
    show PyData.depthAll (PyData.int (n : Int) :: dN t) = 0
    rw [PyData.depthAll, dN_depth t, PyData.depth]; rfl
theorem dN_shL (t : Text) : SeqAt.shaped (.list (dN t)) = true := by
  unfold SeqAt.shaped
  rw [PyData.canLay0, dN_can, PyData.depth, dN_depth]; rfl
theorem dN_shT (t : Text) : SeqAt.shaped (.tuple (dN t)) = true := by
  unfold SeqAt.shaped
  rw [PyData.canLay0, dN_can, PyData.depth, dN_depth]; rfl
theorem eqvT (a b : Text) : PyData.eqv (.tuple (dN a)) (.tuple (dN b)) = (a == b) := by rw [PyData.eqv, dN_eqv]
theorem eqvL (a b : Text) : PyData.eqv (.list (dN a)) (.list (dN b)) = (a == b) := by rw [PyData.eqv, dN_eqv]
theorem D_Reader_end_open_tag (T : Tx P w K mg B) : MethOk P w K mg base B.C_Reader "end_open_tag" B.f_Reader_end_open_tag 4 ["self"] (spM (CB B) 0 fun as m m' => as = [] ∧ m.tokens.length < sizeLine ∧ m' = Mi.endOpen m) := by
  have D_Reader_add_open_tag := D_Reader_add_open_tag (base := base) T
  have D_Reader_end_tag := D_Reader_end_tag (base := base) T
  refine mkMeth T.f_Reader_end_open_tag sc_Reader_end_open_tag spM_len fun cdv A0 outer s0 H vs Q E hr h => ?_
  obtain ⟨p, as, ρ, m, m', rfl, _, ⟨o, a, ho⟩, ⟨rfl, hz, rfl⟩, fin⟩ := h
  refine ⟨_, (pss_cons (ps_expr (pmeth (pv 0) T.cl_Reader D_Reader_add_open_tag (hr.mono (by decide)) (pa_cons pe_int pa_nil))) (pss_one (ps_if (pt_cmpR (op_inD (units128 hr)) (pe_callTy call_tuple_of rfl T.n_tuple boot_tuple (pa_cons (pe_fld (pv 0) rfl) pa_nil)) (pe_tup (pa_cons (pga T.a_CALC) (pa_cons (pga T.a_VERB) pa_nil))) rfl) (pss_one (ps_fld (pv 0) (pgc T.c_RAW_TEXT) rfl)) (pss_one (ps_expr (pmeth0 (pv 0) T.cl_Reader D_Reader_end_tag (hr.mono (by decide)))))))), ?_⟩
  try dsimp only [tSeq]
  refine a.meth ?_ (as := [.int 0]) ?_ ⟨false, rfl, hz, rfl⟩ rfl (fun _ _ => rfl) fun H1 a1 => ?_
  · rfl
  · exact fun Q q => q
  obtain ⟨ρ1, A1, R1, F1⟩ := id a1
  unfold tIfS tTest tOp tCB tCons
  dsimp only
  refine R1.g_tag T.t rfl ?_
  refine ⟨A1.tag, _, rfl, .inl ⟨SqL.of R1.tag.1, fun l hl => ?_⟩⟩
  refine ⟨(by show 2 ≤ sizeLine; decide), fun q hq => ?_⟩
  have S : Same H1 (upd (upd H1 l (.tup (nats m.tag))) q (.tup [.ref B.t_CALC, .ref B.t_VERB])) := (Same.upd hl).trans (Same.upd hq)
  refine ⟨.tuple (dN m.tag), q, _, [.tuple (dN Vaesca.CALC), .tuple (dN Vaesca.VERB)], .tup (.inl (.inl (Same.upd hq _ _ upd_same))) (dN_all _), rfl, .inl (.inl upd_same), .cons (.tup (T.t_CALC _) (dN_all Vaesca.CALC)) (.cons (.tup (T.t_VERB _) (dN_all Vaesca.VERB)) .nil), dN_shT _, ?_, _, rfl, ?_⟩
  · intro e he
    rcases List.mem_cons.mp he with rfl | he
    · exact dN_shT _
    · rcases List.mem_cons.mp he with rfl | he
      · exact dN_shT _
      · cases he
  have e1 : ([PyData.tuple (dN Vaesca.CALC), .tuple (dN Vaesca.VERB)].any fun e => PyData.eqv e (.tuple (dN m.tag))) = Vaesca.isRaw m.tag := by
    show (PyData.eqv (.tuple (dN Vaesca.CALC)) (.tuple (dN m.tag)) || (PyData.eqv (.tuple (dN Vaesca.VERB)) (.tuple (dN m.tag)) || false)) = _
    rw [eqvT, eqvT, Bool.or_false, BEq.comm (a := Vaesca.CALC), BEq.comm (a := Vaesca.VERB)]
    rfl
  rw [e1]
  have a2 := a1.same S
  have fin' : ∀ H', Wh (CB B) ρ H p (if Vaesca.isRaw m.tag = true then { (Mi.addOpen m false) with mode := .raw } else Mi.endTag (Mi.addOpen m false)) H' → Q .non H' := fin
  refine ite2 (fun e => ?_) fun e => ?_
  · rw [if_pos e] at fin'
    refine a2.s_mode T.t .raw ?_ ?_ fun H3 a3 => fin' H3 (a3.whN (by intro z; cases z) (by intro z; cases z))
    · rfl
    · exact fun Q q => q
  · rw [if_neg e] at fin'
    refine a2.meth ?_ (as := []) ?_ ⟨rfl, rfl⟩ rfl (fun _ _ => rfl) fun H2 a2 => fin' H2 (a2.whN (by intro z; cases z) (by intro z; cases z))
    · rfl
    · exact fun Q q => q
end
end Mr
end
section
set_option Elab.async false
set_option linter.all false
set_option maxRecDepth 100000
set_option maxHeartbeats 2000000
namespace Mr
open PySem PySem.Spec PyProof.Rows L2 Hr
open Vaesca (Text Token Reader Mode Home)
abbrev spStep (C : Cl) (pre : Reader → Nat → Prop) (g : Reader → Nat → Reader) : Sp := spM C 1 fun as m m' => ∃ c : Nat, as = [.int (c : Int)] ∧ pre m c ∧ m' = g m c
abbrev spUnit (C : Cl) (pre : Reader → Prop) (g : Reader → Reader) : Sp := spM C 0 fun as m m' => as = [] ∧ pre m ∧ m' = g m
abbrev spFail (C : Cl) : Sp := spM C 1 fun as m m' => ∃ kd : Nat, as = [.int (kd : Int)] ∧ m' = m.fail kd
structure Sm (m : Reader) : Prop where
  run : m.run.length + 3 < sizeLine
  tok : m.tokens.length + 2 < sizeLine
  att : m.attrs.length + 1 < sizeLine
  tag : m.tag.length < sizeLine
  nam : m.attr.length < sizeLine
  bod : m.body.length < sizeLine
section
variable {K : PySem.W.Frag} {C : Cl} {H H0 : Hp} {ρ ρ0 : Lab} {p : Addr} {m m' : Reader} {σ : L2.St} {D : Ends} {i j c a : Nat} {v : V} {t u : TS} {g : Nat → Bool}
theorem if_eq {a c : Nat} (h1 : c = a → t D σ H) (h2 : ¬ c = a → u D σ H) (hc : σ[i]? = some (some (.int (c : Int))) := by rfl) (hn : v = .int (a : Int) := by rfl) : tIfS (tTest (tOp rEq (tVar i) (tC v))) t u D σ H := by
  subst hn
  refine ⟨_, hc, rfl, _, rfl, ?_⟩
  rw [dec_eq]
  exact ite2 (fun e => h1 (eq_of_beq e)) fun e => h2 fun z => e (by rw [z]; exact beq_self_eq_true a)
theorem if_ne {a c : Nat} (h1 : ¬ c = a → t D σ H) (h2 : c = a → u D σ H) (hc : σ[i]? = some (some (.int (c : Int))) := by rfl) (hn : v = .int (a : Int) := by rfl) : tIfS (tTest (tOp rNe (tVar i) (tC v))) t u D σ H := by
  subst hn
  refine ⟨_, hc, rfl, _, rfl, ?_⟩
  rw [dec_eq]
  refine ite2 (fun e => h1 fun z => ?_) fun e => h2 ?_
  · rw [z] at e; simp at e
  · by_cases z : c = a
    · exact z
    · rw [beq_eq_false_iff_ne.mpr z] at e; exact (e rfl).elim
theorem if_b {c : Nat} (h1 : g c = true → t D σ H) (h2 : ¬ g c = true → u D σ H) (hc : σ[i]? = some (some (.int (c : Int))) := by rfl) : tIfS (tB (tCall (spB g) [] E0 (tCons (tVar i) tNil))) t u D σ H := by
  refine ⟨_, hc, c, rfl, _, rfl, ?_⟩
  exact ite2 h1 h2
theorem _root_.Hr.Wh.goC (T : Txt K C) (a : Wh C ρ0 H0 p m H) (mo : Mode) (h : ∀ H', Wh C ρ0 H0 p (m.go mo) H' → D.nx σ H') (hp : σ[i]? = some (some (.ref p)) := by rfl) (hv : v = .int (mo.code : Int) := by rfl) (h1 : mo ≠ .openName := by intro z; cases z) (h2 : mo ≠ .closeName := by intro z; cases z) :
    sFld K (tVar i) (tC v) "mode" D σ H := by
  subst hv
  exact a.s_mode T mo hp (fun Q q => q) h1 h2 h
theorem _root_.Hr.Wh.appV (T : Txt K C) (a : Wh C ρ0 H0 p m H) (hz : m.run.length < sizeLine) (h : ∀ H', Wh C ρ0 H0 p (m.add [c]) H' → D.nx σ H') (hp : σ[i]? = some (some (.ref p)) := by rfl) (hc : σ[j]? = some (some (.int (c : Int))) := by rfl) :
    tDrop (tBM K "list" rAppend (tFld K (tVar i) "run") (tCons (tVar j) tNil)) D σ H := a.s_runApp T c hp (fun Q q => ⟨_, hc, q⟩) hz h
theorem _root_.Hr.Wh.appC (T : Txt K C) (a : Wh C ρ0 H0 p m H) (c : Nat) (hz : m.run.length < sizeLine) (h : ∀ H', Wh C ρ0 H0 p (m.add [c]) H' → D.nx σ H') (hp : σ[i]? = some (some (.ref p)) := by rfl) (hv : v = .int (c : Int) := by rfl) :
    tDrop (tBM K "list" rAppend (tFld K (tVar i) "run") (tCons (tC v) tNil)) D σ H := a.s_runApp T c hp (fun Q q => by subst hv; exact q) hz h
theorem _root_.Hr.Wh.step {pre : Reader → Nat → Prop} {g : Reader → Nat → Reader} (a : Wh C ρ0 H0 p m H) (hpre : pre m c) (h : ∀ H', Wh C ρ0 H0 p (g m c) H' → D.nx σ H') (hp : σ[i]? = some (some (.ref p)) := by rfl) (hc : σ[j]? = some (some (.int (c : Int))) := by rfl) :
    tDrop (tCall (spStep C pre g) [] E0 (tCons (tVar i) (tCons (tVar j) tNil))) D σ H := a.call (as := [.int (c : Int)]) hp (fun Q q => ⟨_, hc, q⟩) ⟨c, rfl, hpre, rfl⟩ rfl h
theorem _root_.Hr.Wh.unit {pre : Reader → Prop} {g : Reader → Reader} (a : Wh C ρ0 H0 p m H) (hpre : pre m) (h : ∀ H', Wh C ρ0 H0 p (g m) H' → D.nx σ H') (hp : σ[i]? = some (some (.ref p)) := by rfl) :
    tDrop (tCall (spUnit C pre g) [] E0 (tCons (tVar i) tNil)) D σ H := a.call (as := []) hp (fun Q q => q) ⟨rfl, hpre, rfl⟩ rfl h
theorem _root_.Hr.Wh.methU {pre : Reader → Prop} {g : Reader → Reader} {nm : Str} (a : Wh C ρ0 H0 p m H) (hpre : pre m) (h : ∀ H', Wh C ρ0 H0 p (g m) H' → D.nx σ H') (hnm : ∀ m A, (rf m A).lookup nm = none := by intro _ _; rfl) (hp : σ[i]? = some (some (.ref p)) := by rfl) :
    tDrop (tMeth C.rdr nm (spUnit C pre g) [] E0 (tVar i) tNil) D σ H := a.meth (as := []) hp (fun Q q => q) ⟨rfl, hpre, rfl⟩ rfl hnm h
theorem _root_.Hr.Wh.failC (a : Wh C ρ0 H0 p m H) (kd : Nat) (h : ∀ H', Wh C ρ0 H0 p (m.fail kd) H' → D.nx σ H') (hp : σ[i]? = some (some (.ref p)) := by rfl) (hv : v = .int (kd : Int) := by rfl) :
    tDrop (tMeth C.rdr "fail" (spFail C) [] E0 (tVar i) (tCons (tC v) tNil)) D σ H := a.meth (as := [.int (kd : Int)]) hp (fun Q q => by subst hv; exact q) ⟨kd, rfl, rfl⟩ rfl (fun _ _ => rfl) h
theorem if_run (T : Txt K C) (a : Wh C ρ0 H0 p m H) (h1 : ¬ m.run = [] → ∀ H', Wh C ρ0 H0 p m H' → t D σ H') (h2 : m.run = [] → ∀ H', Wh C ρ0 H0 p m H' → u D σ H') (hp : σ[i]? = some (some (.ref p)) := by rfl) :
    tIfS (tTest (tOp (rNeD K) (tFld K (tVar i) "run") (tLst tNil))) t u D σ H := by
  obtain ⟨o, ⟨ρ, A, R, F⟩, ho⟩ := a
  unfold tIfS tTest tOp
  refine R.g_run T hp ?_
  refine ⟨Nat.zero_le _, fun l hl => ?_⟩
  have a1 : Wh C ρ0 H0 p m (upd H l (.lst [])) := ⟨o, At.same ⟨ρ, A, R, F⟩ (Same.upd hl), ho⟩
  refine ⟨.list (dN m.run), .list (dN []), .lst (SqL.of (Same.upd hl _ _ (R.run rfl).1)) (dN_all _), .lst (SqL.of upd_same) .nil, dN_shL _, dN_shL _, _, rfl, ?_⟩
  rw [eqvL]
  refine ite2 (fun e => h1 (fun z => ?_) _ a1) fun e => h2 ?_ _ a1
  · rw [z] at e; cases e
  · cases q : m.run with
    | nil => rfl
    | cons x l => rw [q] at e; exact (e rfl).elim
end
section
variable {P : Program} {w : World} {K : PySem.W.Frag} {mg : Str → Option Value} {base : Heap} {B : Adr}
theorem D_end_run_of_text (T : Tx P w K mg B) : DefOk P w K mg base "end_run_of_text" B.f_end_run_of_text 5 ["reader"] (spUnit (CB B) (fun m => m.tokens.length < sizeLine) Mi.endText) := by
  have D_Reader_end_run := D_Reader_end_run (base := base) T
  refine mkDef T.f_end_run_of_text sc_end_run_of_text spM_len fun cdv A0 outer s0 H vs Q E hr h => ?_
  obtain ⟨p, as, ρ, m, m', rfl, _, a, ⟨rfl, hz, rfl⟩, fin⟩ := h
  refine ⟨_, (pss_one (ps_if (pt_cmpR (op_neD hr.units) (pe_fld (pv 0) rfl) (pe_lst pa_nil) (nomark _)) (pss_one (ps_expr (pmeth (pv 0) T.cl_Reader D_Reader_end_run (hr.mono (by decide)) (pa_cons (pgc T.c_RUN_OF_TEXT_TOKEN) (pa_cons (pe_fld (pv 0) rfl) pa_nil))))) pss_nil)), ?_⟩
  unfold Mi.endText at fin
  refine if_run T.t a (fun e H1 a1 => ?_) fun e H1 a1 => ?_
  · rw [if_neg e] at fin
    obtain ⟨o, ⟨ρ1, A1, R1, F1⟩, ho⟩ := id a1
    refine a1.meth (as := [.int 0, .int m.count]) ?_ ?_ ⟨0, m.count, rfl, .inl rfl, hz, rfl⟩ rfl (fun _ _ => rfl) fin
    · rfl
    · exact fun Q q => R1.g_count T.t rfl q
  · rw [if_pos e] at fin
    exact fin _ a1
theorem D_read_in_text (T : Tx P w K mg B) : DefOk P w K mg base "read_in_text" B.f_read_in_text 6 ["reader", "sign"] (spStep (CB B) (fun m _ => Sm m) Mi.inText) := by
  have D_end_run_of_text := D_end_run_of_text (base := base) T
  refine mkDef T.f_read_in_text sc_read_in_text spM_len fun cdv A0 outer s0 H vs Q E hr h => ?_
  obtain ⟨p, as, ρ, m, m', rfl, _, a, ⟨c, rfl, S, rfl⟩, fin⟩ := h
  refine ⟨_, (pss_one (ps_if (pt_cmpR op_eq (pv 1) (pgc T.c_LESS) (nomark _)) (pss_cons (ps_expr (pcall D_end_run_of_text (hr.mono (by decide)) rfl (pa_cons (pv 0) pa_nil))) (pss_one (ps_fld (pv 0) (pgc T.c_BEHIND_LESS) rfl))) (pss_one (ps_if (pt_cmpR op_eq (pv 1) (pgc T.c_AMPERSAND) (nomark _)) (pss_one (ps_fld (pv 0) (pgc T.c_REFERENCE_IN_TEXT) rfl)) (pss_one (ps_expr (pe_bm PySem.F.plainAttrs_list PySem.F.slot_list_append PySem.F.type_list_append mt_append (pe_fld (pv 0) rfl) (pa_cons (pv 1) pa_nil)))))))), ?_⟩
  unfold Mi.inText at fin
  refine if_eq (a := 60) (c := c) (fun e => ?_) (fun e => ?_)
  · rw [if_pos e] at fin
    try dsimp only [tSeq]
    refine a.unit (by have := S.tok; omega) fun H1 a1 => ?_
    exact a1.goC T.t .lt fin
  · rw [if_neg e] at fin
    refine if_eq (a := 38) (c := c) (fun e => ?_) (fun e => ?_)
    · rw [if_pos e] at fin
      exact a.goC T.t (.ref .text) fin
    · rw [if_neg e] at fin
      exact a.appV T.t (by have := S.run; omega) fin
theorem D_read_behind_less (T : Tx P w K mg B) : DefOk P w K mg base "read_behind_less" B.f_read_behind_less 2 ["reader", "sign"] (spStep (CB B) (fun m _ => True) Mi.inLt) := by
  have D_is_small_letter := D_is_small_letter (base := base) T
  have D_Reader_fail := D_Reader_fail (base := base) T
  refine mkDef T.f_read_behind_less sc_read_behind_less spM_len fun cdv A0 outer s0 H vs Q E hr h => ?_
  obtain ⟨p, as, ρ, m, m', rfl, _, a, ⟨c, rfl, S, rfl⟩, fin⟩ := h
  refine ⟨_, (pss_one (ps_if (pt_val (pcall D_is_small_letter (hr.mono (by decide)) rfl (pa_cons (pv 1) pa_nil))) (pss_cons (ps_fld (pv 0) (pe_lst (pa_cons (pv 1) pa_nil)) rfl) (pss_one (ps_fld (pv 0) (pgc T.c_OPEN_TAG_NAME) rfl))) (pss_one (ps_if (pt_cmpR op_eq (pv 1) (pgc T.c_SLASH) (nomark _)) (pss_one (ps_fld (pv 0) (pgc T.c_BEHIND_LESS_SLASH) rfl)) (pss_one (ps_if (pt_cmpR op_eq (pv 1) (pgc T.c_EXCLAMATION) (nomark _)) (pss_one (ps_fld (pv 0) (pgc T.c_BEHIND_LESS_EXCLAMATION) rfl)) (pss_one (ps_expr (pmeth (pv 0) T.cl_Reader D_Reader_fail (hr.mono (by decide)) (pa_cons (pgc T.c_WRONG_BYTE) pa_nil)))))))))), ?_⟩
  unfold Mi.inLt at fin
  refine if_b (c := c) (fun e => ?_) (fun e => ?_)
  · rw [if_pos e] at fin
    try dsimp only [tSeq]
    obtain ⟨o, a, _⟩ := a
    refine a.s_tag T.t [c] ?_ ?_ fun H1 a1 => ?_
    · rfl
    · exact fun Q q => ⟨_, rfl, (by show 1 ≤ sizeLine; decide), q⟩
    try dsimp only [tSeq]
    refine a1.s_mode T.t .openName ?_ ?_ ?_
    · rfl
    · exact fun Q q => q
    · exact fun H2 a2 => fin H2 (a2.wh fun _ => rfl)
  · rw [if_neg e] at fin
    refine if_eq (a := 47) (c := c) (fun e => ?_) (fun e => ?_)
    · rw [if_pos e] at fin
      exact a.goC T.t .ltSlash fin
    · rw [if_neg e] at fin
      refine if_eq (a := 33) (c := c) (fun e => ?_) (fun e => ?_)
      · rw [if_pos e] at fin
        exact a.goC T.t .bang fin
      · rw [if_neg e] at fin
        exact a.failC 1 fin
theorem D_read_behind_part_of_tag (T : Tx P w K mg B) : DefOk P w K mg base "read_behind_part_of_tag" B.f_read_behind_part_of_tag 5 ["reader", "sign"] (spStep (CB B) (fun m _ => m.tokens.length < sizeLine) Mi.behindPart) := by
  have D_is_blank := D_is_blank (base := base) T
  have D_Reader_end_open_tag := D_Reader_end_open_tag (base := base) T
  have D_Reader_fail := D_Reader_fail (base := base) T
  refine mkDef T.f_read_behind_part_of_tag sc_read_behind_part_of_tag spM_len fun cdv A0 outer s0 H vs Q E hr h => ?_
  obtain ⟨p, as, ρ, m, m', rfl, _, a, ⟨c, rfl, S, rfl⟩, fin⟩ := h
  refine ⟨_, (pss_one (ps_if (pt_val (pcall D_is_blank (hr.mono (by decide)) rfl (pa_cons (pv 1) pa_nil))) (pss_one (ps_fld (pv 0) (pgc T.c_GAP) rfl)) (pss_one (ps_if (pt_cmpR op_eq (pv 1) (pgc T.c_SLASH) (nomark _)) (pss_one (ps_fld (pv 0) (pgc T.c_BEHIND_SLASH) rfl)) (pss_one (ps_if (pt_cmpR op_eq (pv 1) (pgc T.c_GREATER) (nomark _)) (pss_one (ps_expr (pmeth0 (pv 0) T.cl_Reader D_Reader_end_open_tag (hr.mono (by decide))))) (pss_one (ps_expr (pmeth (pv 0) T.cl_Reader D_Reader_fail (hr.mono (by decide)) (pa_cons (pgc T.c_WRONG_BYTE) pa_nil)))))))))), ?_⟩
  unfold Mi.behindPart at fin
  refine if_b (c := c) (fun e => ?_) (fun e => ?_)
  · rw [if_pos e] at fin
    exact a.goC T.t .gap fin
  · rw [if_neg e] at fin
    refine if_eq (a := 47) (c := c) (fun e => ?_) (fun e => ?_)
    · rw [if_pos e] at fin
      exact a.goC T.t .slash fin
    · rw [if_neg e] at fin
      refine if_eq (a := 62) (c := c) (fun e => ?_) (fun e => ?_)
      · rw [if_pos e] at fin
        exact a.methU S fin
      · rw [if_neg e] at fin
        exact a.failC 1 fin
end
end Mr
end
section
set_option Elab.async false
set_option linter.all false
set_option maxRecDepth 100000
set_option maxHeartbeats 2000000
namespace Mr
open PySem PySem.Spec PyProof.Rows L2 Hr
open Vaesca (Text Token Reader Mode Home)
theorem code17 (mo : Mode) (h : mo.code = 17) : mo = .bang := by
  cases mo with
  | ref x => cases x <;> exact absurd h (by decide)
  | comment d =>
    exfalso
    simp only [Mode.code] at h
    split at h
    · cases h
    · split at h <;> cases h
  | bang => rfl
  | _ => exact absurd h (by decide)
def spName (C : Cl) : Sp := fun vs H Q _ => ∃ (p l : Addr) (c : Nat) (ρ : Lab) (A : Ad) (m : Reader) (o : Bool), vs = [.ref p, .ref l, .int (c : Int)] ∧ RAt C H ρ A p m o true true ∧ (m.mode = .openName ∨ m.mode = .closeName → o = true) ∧
  ((l = A.tag ∧ o = true ∧ m.tag.length < sizeLine ∧ ∀ H', Wh C ρ H p (if m.tag.length = 32 then m.fail 2 else { m with tag := m.tag ++ [c] }) H' → Q .non H') ∨
   (l = A.nam ∧ m.attr.length < sizeLine ∧ ∀ H', Wh C ρ H p (if m.attr.length = 32 then m.fail 2 else { m with attr := m.attr ++ [c] }) H' → Q .non H'))
section
variable {P : Program} {w : World} {K : PySem.W.Frag} {mg : Str → Option Value} {base : Heap} {B : Adr}
theorem D_add_to_name (T : Tx P w K mg B) : DefOk P w K mg base "add_to_name" B.f_add_to_name 2 ["reader", "name", "sign"] (spName (CB B)) := by
  have D_Reader_fail := D_Reader_fail (base := base) T
  refine mkDef T.f_add_to_name sc_add_to_name ?_ fun cdv A0 outer s0 H vs Q E hr h => ?_
  · rintro vs H Q E ⟨p, l, c, ρ, A, m, o, rfl, _⟩
    rfl
  obtain ⟨p, l, c, ρ, A, m, o, rfl, R, ho, fin⟩ := h
  refine ⟨_, (pss_one (ps_if (pt_cmpR op_eq (pe_callB call_len rfl T.n_len PySem.boot_len (pa_cons (pv 1) pa_nil)) (pgc T.c_LONGEST_NAME) (nomark _)) (pss_one (ps_expr (pmeth (pv 0) T.cl_Reader D_Reader_fail (hr.mono (by decide)) (pa_cons (pgc T.c_LONG_NAME) pa_nil)))) (pss_one (ps_expr (pe_bm PySem.F.plainAttrs_list PySem.F.slot_list_append PySem.F.type_list_append mt_append (pv 1) (pa_cons (pv 2) pa_nil)))))), ?_⟩
  have a : Wh (CB B) ρ H p m H := ⟨o, ⟨ρ, A, R, Stay.refl⟩, ho⟩
  rcases fin with ⟨rfl, rfl, hz, fin⟩ | ⟨rfl, hz, fin⟩
  · refine ⟨_, rfl, _, _, rfl, .inl ⟨_, SqL.of R.tag.1, rfl⟩, rfl, _, rfl, ?_⟩
    rw [nats_len, show decide (V.int ((m.tag.length : Nat) : Int) = V.int 32) = (m.tag.length == 32) from dec_eq 32 _]
    refine ite2 (fun e => ?_) fun e => ?_
    · rw [if_pos (eq_of_beq e)] at fin
      exact a.failC 2 fin
    · rw [if_neg (fun z => e (by rw [z]; rfl))] at fin
      refine ⟨_, rfl, .inl ⟨rfl, _, SqL.of R.tag.1⟩, _, rfl, _, _, _, rfl, rfl, R.tag.1, by rw [nats_len]; exact hz, ?_⟩
      obtain ⟨R', F'⟩ := R.c_tag (m.tag ++ [c])
      rw [nats_app] at R' F'
      exact fin _ ⟨true, ⟨ρ, A, R', F'⟩, fun _ => rfl⟩
  · refine ⟨_, rfl, _, _, rfl, .inl ⟨_, SqL.of R.nam.1, rfl⟩, rfl, _, rfl, ?_⟩
    rw [nats_len, show decide (V.int ((m.attr.length : Nat) : Int) = V.int 32) = (m.attr.length == 32) from dec_eq 32 _]
    refine ite2 (fun e => ?_) fun e => ?_
    · rw [if_pos (eq_of_beq e)] at fin
      exact a.failC 2 fin
    · rw [if_neg (fun z => e (by rw [z]; rfl))] at fin
      refine ⟨_, rfl, .inl ⟨rfl, _, SqL.of R.nam.1⟩, _, rfl, _, _, _, rfl, rfl, R.nam.1, by rw [nats_len]; exact hz, ?_⟩
      obtain ⟨R', F'⟩ := R.c_nam (m.attr ++ [c])
      rw [nats_app] at R' F'
      exact fin _ ⟨o, ⟨ρ, A, R', F'⟩, ho⟩
section
variable {C : Cl} {H H0 : Hp} {ρ0 : Lab} {p : Addr} {m : Reader} {σ : L2.St} {D : Ends} {c : Nat}
theorem name_tag (T : Txt K C) (a : Wh C ρ0 H0 p m H) (hm : m.mode = .openName ∨ m.mode = .closeName) (hz : m.tag.length < sizeLine) (h : ∀ H', Wh C ρ0 H0 p (if m.tag.length = 32 then m.fail 2 else { m with tag := m.tag ++ [c] }) H' → D.nx σ H')
    (hp : σ[0]? = some (some (.ref p)) := by rfl) (hc : σ[1]? = some (some (.int (c : Int))) := by rfl) : tDrop (tCall (spName C) [] E0 (tCons (tVar 0) (tCons (tFld K (tVar 0) "tag_name") (tCons (tVar 1) tNil)))) D σ H := by
  obtain ⟨o, ⟨ρ, A, R, F⟩, ho⟩ := a
  refine ⟨_, hp, ?_⟩
  dsimp only [tCons]
  refine R.g_tag T hp ⟨_, hc, ?_⟩
  exact ⟨p, A.tag, c, ρ, A, m, o, rfl, R, ho, .inl ⟨rfl, ho hm, hz, fun H' w => h H' (w.trans F)⟩⟩
theorem name_nam (T : Txt K C) (a : Wh C ρ0 H0 p m H) (hz : m.attr.length < sizeLine) (h : ∀ H', Wh C ρ0 H0 p (if m.attr.length = 32 then m.fail 2 else { m with attr := m.attr ++ [c] }) H' → D.nx σ H')
    (hp : σ[0]? = some (some (.ref p)) := by rfl) (hc : σ[1]? = some (some (.int (c : Int))) := by rfl) : tDrop (tCall (spName C) [] E0 (tCons (tVar 0) (tCons (tFld K (tVar 0) "attribute_name") (tCons (tVar 1) tNil)))) D σ H := by
  obtain ⟨o, ⟨ρ, A, R, F⟩, ho⟩ := a
  refine ⟨_, hp, ?_⟩
  dsimp only [tCons]
  refine R.g_nam T hp ⟨_, hc, ?_⟩
  exact ⟨p, A.nam, c, ρ, A, m, o, rfl, R, ho, .inr ⟨rfl, hz, fun H' w => h H' (w.trans F)⟩⟩
end
theorem D_read_in_open_tag_name (T : Tx P w K mg B) : DefOk P w K mg base "read_in_open_tag_name" B.f_read_in_open_tag_name 6 ["reader", "sign"] (spStep (CB B) (fun m _ => Sm m ∧ m.mode = .openName) Mi.inOpenName) := by
  have D_is_name_sign := D_is_name_sign (base := base) T
  have D_add_to_name := D_add_to_name (base := base) T
  have D_read_behind_part_of_tag := D_read_behind_part_of_tag (base := base) T
  refine mkDef T.f_read_in_open_tag_name sc_read_in_open_tag_name spM_len fun cdv A0 outer s0 H vs Q E hr h => ?_
  obtain ⟨p, as, ρ, m, m', rfl, _, a, ⟨c, rfl, ⟨S, hm⟩, rfl⟩, fin⟩ := h
  refine ⟨_, (pss_one (ps_if (pt_val (pcall D_is_name_sign (hr.mono (by decide)) rfl (pa_cons (pv 1) pa_nil))) (pss_one (ps_expr (pcall D_add_to_name (hr.mono (by decide)) rfl (pa_cons (pv 0) (pa_cons (pe_fld (pv 0) rfl) (pa_cons (pv 1) pa_nil)))))) (pss_one (ps_expr (pcall D_read_behind_part_of_tag (hr.mono (by decide)) rfl (pa_cons (pv 0) (pa_cons (pv 1) pa_nil))))))), ?_⟩
  unfold Mi.inOpenName at fin
  refine if_b (c := c) (fun e => ?_) (fun e => ?_)
  · rw [if_pos e] at fin
    exact name_tag T.t a (.inl hm) S.tag fin
  · rw [if_neg e] at fin
    exact a.step (by have := S.tok; omega) fin
theorem D_read_behind_less_slash (T : Tx P w K mg B) : DefOk P w K mg base "read_behind_less_slash" B.f_read_behind_less_slash 2 ["reader", "sign"] (spStep (CB B) (fun m _ => True) Mi.inLtSlash) := by
  have D_is_small_letter := D_is_small_letter (base := base) T
  have D_Reader_fail := D_Reader_fail (base := base) T
  refine mkDef T.f_read_behind_less_slash sc_read_behind_less_slash spM_len fun cdv A0 outer s0 H vs Q E hr h => ?_
  obtain ⟨p, as, ρ, m, m', rfl, _, a, ⟨c, rfl, S, rfl⟩, fin⟩ := h
  refine ⟨_, (pss_one (ps_if (pt_val (pcall D_is_small_letter (hr.mono (by decide)) rfl (pa_cons (pv 1) pa_nil))) (pss_cons (ps_fld (pv 0) (pe_lst (pa_cons (pv 1) pa_nil)) rfl) (pss_one (ps_fld (pv 0) (pgc T.c_CLOSE_TAG_NAME) rfl))) (pss_one (ps_expr (pmeth (pv 0) T.cl_Reader D_Reader_fail (hr.mono (by decide)) (pa_cons (pgc T.c_WRONG_BYTE) pa_nil)))))), ?_⟩
  unfold Mi.inLtSlash at fin
  refine if_b (c := c) (fun e => ?_) (fun e => ?_)
  · rw [if_pos e] at fin
    try dsimp only [tSeq]
    obtain ⟨o, a, _⟩ := a
    refine a.s_tag T.t [c] ?_ ?_ fun H1 a1 => ?_
    · rfl
    · exact fun Q q => ⟨_, rfl, (by show 1 ≤ sizeLine; decide), q⟩
    try dsimp only [tSeq]
    refine a1.s_mode T.t .closeName ?_ ?_ ?_
    · rfl
    · exact fun Q q => q
    · exact fun H2 a2 => fin H2 (a2.wh fun _ => rfl)
  · rw [if_neg e] at fin
    exact a.failC 1 fin
theorem D_end_close_tag (T : Tx P w K mg B) : DefOk P w K mg base "end_close_tag" B.f_end_close_tag 4 ["reader"] (spUnit (CB B) (fun m => m.tokens.length < sizeLine) Mi.endClose) := by
  have D_Reader_add_token := D_Reader_add_token (base := base) T
  have D_Reader_end_tag := D_Reader_end_tag (base := base) T
  refine mkDef T.f_end_close_tag sc_end_close_tag spM_len fun cdv A0 outer s0 H vs Q E hr h => ?_
  obtain ⟨p, as, ρ, m, m', rfl, _, ⟨o, ⟨ρ1, A, R, F⟩, ho⟩, ⟨rfl, hz, rfl⟩, fin⟩ := h
  refine ⟨_, (pss_cons (ps_expr (pmeth (pv 0) T.cl_Reader D_Reader_add_token (hr.mono (by decide)) (pa_cons (pgc T.c_CLOSE_TAG_TOKEN) (pa_cons (pe_fld (pv 0) rfl) (pa_cons (pe_op op_add (pe_fld (pv 0) rfl) pe_int) pa_nil))))) (pss_one (ps_expr (pmeth0 (pv 0) T.cl_Reader D_Reader_end_tag (hr.mono (by decide)))))), ?_⟩
  refine ⟨_, rfl, p, A.dx, _, rfl, R.ins, rfl, ?_⟩
  dsimp only [tCons, tC]
  refine R.g_tag T.t rfl ?_
  dsimp only [tOp]
  refine R.g_count T.t rfl ⟨_, _, rfl, rfl, ?_⟩
  refine ⟨p, A.tag, 2, m.count + 1, ρ1, A, m, o, true, true, rfl, R, .inr (.inl rfl), hz, .inr ⟨rfl, fun H1 a1 => ?_⟩⟩
  have a2 := a1.trans F
  try dsimp only [tSeq]
  refine a2.meth ?_ (as := []) ?_ ⟨rfl, rfl⟩ rfl (fun _ _ => rfl) ?_
  · rfl
  · exact fun Q q => q
  · exact fun H2 a3 => fin H2 (a3.whN (by intro z; cases z) (by intro z; cases z))
theorem D_read_in_close_tag_name (T : Tx P w K mg B) : DefOk P w K mg base "read_in_close_tag_name" B.f_read_in_close_tag_name 6 ["reader", "sign"] (spStep (CB B) (fun m _ => Sm m ∧ m.mode = .closeName) Mi.inCloseName) := by
  have D_is_name_sign := D_is_name_sign (base := base) T
  have D_add_to_name := D_add_to_name (base := base) T
  have D_end_close_tag := D_end_close_tag (base := base) T
  have D_Reader_fail := D_Reader_fail (base := base) T
  refine mkDef T.f_read_in_close_tag_name sc_read_in_close_tag_name spM_len fun cdv A0 outer s0 H vs Q E hr h => ?_
  obtain ⟨p, as, ρ, m, m', rfl, _, a, ⟨c, rfl, ⟨S, hm⟩, rfl⟩, fin⟩ := h
  refine ⟨_, (pss_one (ps_if (pt_val (pcall D_is_name_sign (hr.mono (by decide)) rfl (pa_cons (pv 1) pa_nil))) (pss_one (ps_expr (pcall D_add_to_name (hr.mono (by decide)) rfl (pa_cons (pv 0) (pa_cons (pe_fld (pv 0) rfl) (pa_cons (pv 1) pa_nil)))))) (pss_one (ps_if (pt_cmpR op_eq (pv 1) (pgc T.c_GREATER) (nomark _)) (pss_one (ps_expr (pcall D_end_close_tag (hr.mono (by decide)) rfl (pa_cons (pv 0) pa_nil)))) (pss_one (ps_expr (pmeth (pv 0) T.cl_Reader D_Reader_fail (hr.mono (by decide)) (pa_cons (pgc T.c_WRONG_BYTE) pa_nil)))))))), ?_⟩
  unfold Mi.inCloseName at fin
  refine if_b (c := c) (fun e => ?_) (fun e => ?_)
  · rw [if_pos e] at fin
    exact name_tag T.t a (.inr hm) S.tag fin
  · rw [if_neg e] at fin
    refine if_eq (a := 62) (c := c) (fun e => ?_) (fun e => ?_)
    · rw [if_pos e] at fin
      exact a.unit (by have := S.tok; omega) fin
    · rw [if_neg e] at fin
      exact a.failC 1 fin
theorem D_read_in_gap (T : Tx P w K mg B) : DefOk P w K mg base "read_in_gap" B.f_read_in_gap 6 ["reader", "sign"] (spStep (CB B) (fun m _ => Sm m) Mi.inGap) := by
  have D_is_small_letter := D_is_small_letter (base := base) T
  have D_read_behind_part_of_tag := D_read_behind_part_of_tag (base := base) T
  refine mkDef T.f_read_in_gap sc_read_in_gap spM_len fun cdv A0 outer s0 H vs Q E hr h => ?_
  obtain ⟨p, as, ρ, m, m', rfl, _, a, ⟨c, rfl, S, rfl⟩, fin⟩ := h
  refine ⟨_, (pss_one (ps_if (pt_val (pcall D_is_small_letter (hr.mono (by decide)) rfl (pa_cons (pv 1) pa_nil))) (pss_cons (ps_fld (pv 0) (pe_lst (pa_cons (pv 1) pa_nil)) rfl) (pss_one (ps_fld (pv 0) (pgc T.c_ATTRIBUTE_NAME) rfl))) (pss_one (ps_expr (pcall D_read_behind_part_of_tag (hr.mono (by decide)) rfl (pa_cons (pv 0) (pa_cons (pv 1) pa_nil))))))), ?_⟩
  unfold Mi.inGap at fin
  refine if_b (c := c) (fun e => ?_) (fun e => ?_)
  · rw [if_pos e] at fin
    try dsimp only [tSeq]
    obtain ⟨o, a, _⟩ := a
    refine a.s_nam T.t [c] ?_ ?_ fun H1 a1 => ?_
    · rfl
    · exact fun Q q => ⟨_, rfl, (by show 1 ≤ sizeLine; decide), q⟩
    try dsimp only [tSeq]
    refine a1.s_mode T.t .attrName ?_ ?_ ?_
    · rfl
    · exact fun Q q => q
    · exact fun H2 a2 => fin H2 (a2.whN (by intro z; cases z) (by intro z; cases z))
  · rw [if_neg e] at fin
    exact a.step (by have := S.tok; omega) fin
theorem D_read_behind_slash (T : Tx P w K mg B) : DefOk P w K mg base "read_behind_slash" B.f_read_behind_slash 5 ["reader", "sign"] (spStep (CB B) (fun m _ => Sm m) Mi.inSlash) := by
  have D_Reader_end_ended_tag := D_Reader_end_ended_tag (base := base) T
  have D_Reader_fail := D_Reader_fail (base := base) T
  refine mkDef T.f_read_behind_slash sc_read_behind_slash spM_len fun cdv A0 outer s0 H vs Q E hr h => ?_
  obtain ⟨p, as, ρ, m, m', rfl, _, a, ⟨c, rfl, S, rfl⟩, fin⟩ := h
  refine ⟨_, (pss_one (ps_if (pt_cmpR op_eq (pv 1) (pgc T.c_GREATER) (nomark _)) (pss_one (ps_expr (pmeth0 (pv 0) T.cl_Reader D_Reader_end_ended_tag (hr.mono (by decide))))) (pss_one (ps_expr (pmeth (pv 0) T.cl_Reader D_Reader_fail (hr.mono (by decide)) (pa_cons (pgc T.c_WRONG_BYTE) pa_nil)))))), ?_⟩
  unfold Mi.inSlash at fin
  refine if_eq (a := 62) (c := c) (fun e => ?_) (fun e => ?_)
  · rw [if_pos e] at fin
    exact a.methU (by have := S.tok; omega) fin
  · rw [if_neg e] at fin
    exact a.failC 1 fin
theorem D_read_in_comment (T : Tx P w K mg B) : DefOk P w K mg base "read_in_comment" B.f_read_in_comment 1 ["reader", "sign"] (spStep (CB B) (fun m _ => Sm m) Mi.inComment0) := by
  refine mkDef T.f_read_in_comment sc_read_in_comment spM_len fun cdv A0 outer s0 H vs Q E hr h => ?_
  obtain ⟨p, as, ρ, m, m', rfl, _, a, ⟨c, rfl, S, rfl⟩, fin⟩ := h
  refine ⟨_, (pss_one (ps_if (pt_cmpR op_eq (pv 1) (pgc T.c_DASH) (nomark _)) (pss_one (ps_fld (pv 0) (pgc T.c_COMMENT_ONE_DASH) rfl)) (pss_one (ps_expr (pe_bm PySem.F.plainAttrs_list PySem.F.slot_list_append PySem.F.type_list_append mt_append (pe_fld (pv 0) rfl) (pa_cons (pv 1) pa_nil)))))), ?_⟩
  unfold Mi.inComment0 at fin
  refine if_eq (a := 45) (c := c) (fun e => ?_) (fun e => ?_)
  · rw [if_pos e] at fin
    exact a.goC T.t (.comment 1) fin
  · rw [if_neg e] at fin
    exact a.appV T.t (by have := S.run; omega) fin
theorem D_read_behind_one_dash (T : Tx P w K mg B) : DefOk P w K mg base "read_behind_one_dash" B.f_read_behind_one_dash 1 ["reader", "sign"] (spStep (CB B) (fun m _ => Sm m) Mi.inComment1) := by
  refine mkDef T.f_read_behind_one_dash sc_read_behind_one_dash spM_len fun cdv A0 outer s0 H vs Q E hr h => ?_
  obtain ⟨p, as, ρ, m, m', rfl, _, a, ⟨c, rfl, S, rfl⟩, fin⟩ := h
  refine ⟨_, (pss_one (ps_if (pt_cmpR op_eq (pv 1) (pgc T.c_DASH) (nomark _)) (pss_one (ps_fld (pv 0) (pgc T.c_COMMENT_TWO_DASHES) rfl)) (pss_cons (ps_expr (pe_bm PySem.F.plainAttrs_list PySem.F.slot_list_extend PySem.F.type_list_extend mt_extend (pe_fld (pv 0) rfl) (pa_cons (pe_lst (pa_cons (pgc T.c_DASH) (pa_cons (pv 1) pa_nil))) pa_nil))) (pss_one (ps_fld (pv 0) (pgc T.c_COMMENT) rfl))))), ?_⟩
  unfold Mi.inComment1 at fin
  refine if_eq (a := 45) (c := c) (fun e => ?_) (fun e => ?_)
  · rw [if_pos e] at fin
    exact a.goC T.t (.comment 2) fin
  · rw [if_neg e] at fin
    try dsimp only [tSeq]
    refine a.s_runExt T.t [45, c] ?_ ?_ ?_ fun H1 a1 => ?_
    · rfl
    · exact fun Q q => ⟨_, rfl, q⟩
    · have := S.run; show m.run.length + 2 ≤ _; omega
    exact a1.goC T.t (.comment 0) fin
theorem D_read_behind_two_dashes (T : Tx P w K mg B) : DefOk P w K mg base "read_behind_two_dashes" B.f_read_behind_two_dashes 5 ["reader", "sign"] (spStep (CB B) (fun m _ => Sm m) Mi.inComment2) := by
  have D_Reader_end_run := D_Reader_end_run (base := base) T
  refine mkDef T.f_read_behind_two_dashes sc_read_behind_two_dashes spM_len fun cdv A0 outer s0 H vs Q E hr h => ?_
  obtain ⟨p, as, ρ, m, m', rfl, _, a, ⟨c, rfl, S, rfl⟩, fin⟩ := h
  refine ⟨_, (pss_one (ps_if (pt_cmpR op_eq (pv 1) (pgc T.c_DASH) (nomark _)) (pss_one (ps_expr (pe_bm PySem.F.plainAttrs_list PySem.F.slot_list_append PySem.F.type_list_append mt_append (pe_fld (pv 0) rfl) (pa_cons (pgc T.c_DASH) pa_nil)))) (pss_one (ps_if (pt_cmpR op_eq (pv 1) (pgc T.c_GREATER) (nomark _)) (pss_cons (ps_expr (pmeth (pv 0) T.cl_Reader D_Reader_end_run (hr.mono (by decide)) (pa_cons (pgc T.c_COMMENT_TOKEN) (pa_cons (pe_op op_add (pe_fld (pv 0) rfl) pe_int) pa_nil)))) (pss_one (ps_fld (pv 0) (pgc T.c_TEXT) rfl))) (pss_cons (ps_expr (pe_bm PySem.F.plainAttrs_list PySem.F.slot_list_extend PySem.F.type_list_extend mt_extend (pe_fld (pv 0) rfl) (pa_cons (pe_lst (pa_cons (pgc T.c_DASH) (pa_cons (pgc T.c_DASH) (pa_cons (pv 1) pa_nil)))) pa_nil))) (pss_one (ps_fld (pv 0) (pgc T.c_COMMENT) rfl))))))), ?_⟩
  unfold Mi.inComment2 at fin
  refine if_eq (a := 45) (c := c) (fun e => ?_) (fun e => ?_)
  · rw [if_pos e] at fin
    exact a.appC T.t 45 (by have := S.run; omega) fin
  · rw [if_neg e] at fin
    refine if_eq (a := 62) (c := c) (fun e => ?_) (fun e => ?_)
    · rw [if_pos e] at fin
      try dsimp only [tSeq]
      obtain ⟨o, ⟨ρ1, A1, R1, F1⟩, ho⟩ := id a
      refine a.meth (as := [.int 3, .int (m.count + 1 : Nat)]) ?_ ?_ ⟨3, m.count + 1, rfl, .inr (.inl rfl), by have := S.tok; omega, rfl⟩ rfl (fun _ _ => rfl) fun H1 a1 => ?_
      · rfl
      · intro Q q
        dsimp only [tCons, tC, tOp]
        exact R1.g_count T.t rfl ⟨_, _, rfl, rfl, q⟩
      exact a1.goC T.t .text fin
    · rw [if_neg e] at fin
      try dsimp only [tSeq]
      refine a.s_runExt T.t [45, 45, c] ?_ ?_ ?_ fun H1 a1 => ?_
      · rfl
      · exact fun Q q => ⟨_, rfl, q⟩
      · have := S.run; show m.run.length + 3 ≤ _; omega
      exact a1.goC T.t (.comment 0) fin
theorem D_read_in_raw_text (T : Tx P w K mg B) : DefOk P w K mg base "read_in_raw_text" B.f_read_in_raw_text 1 ["reader", "sign"] (spStep (CB B) (fun m _ => Sm m) Mi.inRaw) := by
  refine mkDef T.f_read_in_raw_text sc_read_in_raw_text spM_len fun cdv A0 outer s0 H vs Q E hr h => ?_
  obtain ⟨p, as, ρ, m, m', rfl, _, a, ⟨c, rfl, S, rfl⟩, fin⟩ := h
  refine ⟨_, (pss_one (ps_if (pt_cmpR op_eq (pv 1) (pgc T.c_LESS) (nomark _)) (pss_one (ps_fld (pv 0) (pgc T.c_RAW_BEHIND_LESS) rfl)) (pss_one (ps_expr (pe_bm PySem.F.plainAttrs_list PySem.F.slot_list_append PySem.F.type_list_append mt_append (pe_fld (pv 0) rfl) (pa_cons (pv 1) pa_nil)))))), ?_⟩
  unfold Mi.inRaw at fin
  refine if_eq (a := 60) (c := c) (fun e => ?_) (fun e => ?_)
  · rw [if_pos e] at fin
    exact a.goC T.t .rawLt fin
  · rw [if_neg e] at fin
    exact a.appV T.t (by have := S.run; omega) fin
theorem D_read_in_raw_text_behind_less (T : Tx P w K mg B) : DefOk P w K mg base "read_in_raw_text_behind_less" B.f_read_in_raw_text_behind_less 1 ["reader", "sign"] (spStep (CB B) (fun m _ => Sm m) Mi.inRawLt) := by
  refine mkDef T.f_read_in_raw_text_behind_less sc_read_in_raw_text_behind_less spM_len fun cdv A0 outer s0 H vs Q E hr h => ?_
  obtain ⟨p, as, ρ, m, m', rfl, _, a, ⟨c, rfl, S, rfl⟩, fin⟩ := h
  refine ⟨_, (pss_one (ps_if (pt_cmpR op_eq (pv 1) (pgc T.c_SLASH) (nomark _)) (pss_one (ps_fld (pv 0) (pgc T.c_RAW_CLOSE_TAG) rfl)) (pss_one (ps_if (pt_cmpR op_eq (pv 1) (pgc T.c_LESS) (nomark _)) (pss_one (ps_expr (pe_bm PySem.F.plainAttrs_list PySem.F.slot_list_append PySem.F.type_list_append mt_append (pe_fld (pv 0) rfl) (pa_cons (pgc T.c_LESS) pa_nil)))) (pss_cons (ps_expr (pe_bm PySem.F.plainAttrs_list PySem.F.slot_list_extend PySem.F.type_list_extend mt_extend (pe_fld (pv 0) rfl) (pa_cons (pe_lst (pa_cons (pgc T.c_LESS) (pa_cons (pv 1) pa_nil))) pa_nil))) (pss_one (ps_fld (pv 0) (pgc T.c_RAW_TEXT) rfl))))))), ?_⟩
  unfold Mi.inRawLt at fin
  refine if_eq (a := 47) (c := c) (fun e => ?_) (fun e => ?_)
  · rw [if_pos e] at fin
    exact a.goC T.t .rawEnd fin
  · rw [if_neg e] at fin
    refine if_eq (a := 60) (c := c) (fun e => ?_) (fun e => ?_)
    · rw [if_pos e] at fin
      exact a.appC T.t 60 (by have := S.run; omega) fin
    · rw [if_neg e] at fin
      try dsimp only [tSeq]
      refine a.s_runExt T.t [60, c] ?_ ?_ ?_ fun H1 a1 => ?_
      · rfl
      · exact fun Q q => ⟨_, rfl, q⟩
      · have := S.run; show m.run.length + 2 ≤ _; omega
      exact a1.goC T.t .raw fin
theorem D_read_dash_ahead_of_comment (T : Tx P w K mg B) : DefOk P w K mg base "read_dash_ahead_of_comment" B.f_read_dash_ahead_of_comment 2 ["reader", "sign"] (spStep (CB B) (fun m _ => True) Mi.inBangs) := by
  have D_Reader_fail := D_Reader_fail (base := base) T
  refine mkDef T.f_read_dash_ahead_of_comment sc_read_dash_ahead_of_comment spM_len fun cdv A0 outer s0 H vs Q E hr h => ?_
  obtain ⟨p, as, ρ, m, m', rfl, _, a, ⟨c, rfl, S, rfl⟩, fin⟩ := h
  refine ⟨_, (pss_one (ps_if (pt_cmpR op_ne (pv 1) (pgc T.c_DASH) (nomark _)) (pss_one (ps_expr (pmeth (pv 0) T.cl_Reader D_Reader_fail (hr.mono (by decide)) (pa_cons (pgc T.c_WRONG_BYTE) pa_nil)))) (pss_one (ps_if (pt_cmpR op_eq (pe_fld (pv 0) rfl) (pgc T.c_BEHIND_LESS_EXCLAMATION) (nomark _)) (pss_one (ps_fld (pv 0) (pgc T.c_BEHIND_FIRST_DASH) rfl)) (pss_one (ps_fld (pv 0) (pgc T.c_COMMENT) rfl)))))), ?_⟩
  unfold Mi.inBangs at fin
  refine if_ne (a := 45) (c := c) (fun e => ?_) (fun e => ?_)
  · rw [if_neg e] at fin
    exact a.failC 1 fin
  · rw [if_pos e] at fin
    obtain ⟨o, ⟨ρ1, A1, R1, F1⟩, ho⟩ := id a
    dsimp only [tIfS, tTest, tOp]
    refine R1.g_mode T.t rfl ⟨rfl, _, rfl, ?_⟩
    rw [show decide (V.int ((m.mode.code : Nat) : Int) = V.int 17) = (m.mode.code == 17) from dec_eq 17 _]
    refine ite2 (fun e => ?_) fun e => ?_
    · have e' : m.mode = .bang := code17 _ (eq_of_beq e)
      rw [if_pos e'] at fin
      exact a.goC T.t .bangDash fin
    · have e' : ¬ m.mode = .bang := fun z => e (by rw [z]; rfl)
      rw [if_neg e'] at fin
      exact a.goC T.t (.comment 0) fin
end
end Mr
end
section
set_option Elab.async false
set_option linter.all false
set_option maxRecDepth 100000
set_option maxHeartbeats 2000000
namespace Mr
open PySem PySem.Spec PyProof.Rows L2 Hr
open Vaesca (Text Token Reader Mode Home)
abbrev spEA (C : Cl) : Sp := spM C 0 fun as m m' => as = [] ∧ Vaesca.isTwice m = false ∧ m.attrs.length < sizeLine ∧ m' = Vaesca.endAttr m
section
variable {K : PySem.W.Frag} {C : Cl} {H H0 : Hp} {ρ0 : Lab} {p : Addr} {m : Reader} {σ : L2.St} {D : Ends} {i c : Nat} {t u : TS}
theorem _root_.Hr.Wh.endA (a : Wh C ρ0 H0 p m H) (htw : Vaesca.isTwice m = false) (hz : m.attrs.length < sizeLine) (h : ∀ H', Wh C ρ0 H0 p (Vaesca.endAttr m) H' → D.nx σ H') (hp : σ[i]? = some (some (.ref p)) := by rfl) :
    tDrop (tMeth C.rdr "end_attribute" (spEA C) [] E0 (tVar i) tNil) D σ H := a.meth (as := []) hp (fun Q q => q) ⟨rfl, htw, hz, rfl⟩ rfl (fun _ _ => rfl) h
theorem cut_lo {α : Type} (xs : List V) (k : Nat) : cutV xs (some (k : Int)) none = xs.drop k := by
  unfold cutV
  rw [HT.sIx_nat, HT.sIx_none]
  by_cases h : k ≤ xs.length
  · rw [Nat.min_eq_left h]
    exact List.take_of_length_le (by rw [List.length_drop]; exact Nat.le_refl _)
  · rw [Nat.min_eq_right (by omega), List.drop_of_length_le (Nat.le_refl _), List.drop_of_length_le (by omega), List.take_nil]
theorem cut_hi (xs : List V) (k : Nat) : cutV xs none (some (k : Int)) = xs.take k := by
  unfold cutV
  rw [HT.sIx_nat, HT.sIx_none, List.drop_zero, Nat.sub_zero]
  by_cases h : k ≤ xs.length
  · rw [Nat.min_eq_left h]
  · rw [Nat.min_eq_right (by omega), List.take_of_length_le (Nat.le_refl _), List.take_of_length_le (by omega)]
theorem nats_drop (t : Text) (k : Nat) : (nats t).drop k = nats (t.drop k) := by unfold nats; rw [List.map_drop]
theorem nats_take (t : Text) (k : Nat) : (nats t).take k = nats (t.take k) := by unfold nats; rw [List.map_take]
end
section
variable {P : Program} {w : World} {K : PySem.W.Frag} {mg : Str → Option Value} {base : Heap} {B : Adr}
theorem D_read_in_attribute_name (T : Tx P w K mg B) : DefOk P w K mg base "read_in_attribute_name" B.f_read_in_attribute_name 6 ["reader", "sign"] (spStep (CB B) (fun m _ => Sm m) Mi.inAttrName) := by
  have D_is_name_sign := D_is_name_sign (base := base) T
  have D_is_blank := D_is_blank (base := base) T
  have D_add_to_name := D_add_to_name (base := base) T
  have D_read_behind_part_of_tag := D_read_behind_part_of_tag (base := base) T
  have D_Reader_fail := D_Reader_fail (base := base) T
  have D_Reader_end_attribute := D_Reader_end_attribute (base := base) T
  refine mkDef T.f_read_in_attribute_name sc_read_in_attribute_name spM_len fun cdv A0 outer s0 H vs Q E hr h => ?_
  obtain ⟨p, as, ρ, m, m', rfl, _, a, ⟨c, rfl, S, rfl⟩, fin⟩ := h
  refine ⟨_, (pss_one (ps_if (pt_val (pcall D_is_name_sign (hr.mono (by decide)) rfl (pa_cons (pv 1) pa_nil))) (pss_one (ps_expr (pcall D_add_to_name (hr.mono (by decide)) rfl (pa_cons (pv 0) (pa_cons (pe_fld (pv 0) rfl) (pa_cons (pv 1) pa_nil)))))) (pss_one (ps_if (PW.pt (pw_and (pt_not (pt_val (pcall D_is_blank (hr.mono (by decide)) rfl (pa_cons (pv 1) pa_nil)))) (pw_and1 (pt_cmpR op_notIn_seq (pv 1) (pe_tup (pa_cons (pgc T.c_SLASH) (pa_cons (pgc T.c_GREATER) (pa_cons (pgc T.c_EQUALS) pa_nil)))) rfl)))) (pss_one (ps_expr (pmeth (pv 0) T.cl_Reader D_Reader_fail (hr.mono (by decide)) (pa_cons (pgc T.c_WRONG_BYTE) pa_nil)))) (pss_one (ps_if (pt_cmp (pc_din (hu_of hr) (pe_callTy call_tuple_of rfl T.n_tuple boot_tuple (pa_cons (pe_fld (pv 0) rfl) pa_nil)) (pe_fld (pv 0) rfl))) (pss_one (ps_expr (pmeth (pv 0) T.cl_Reader D_Reader_fail (hr.mono (by decide)) (pa_cons (pgc T.c_SAME_ATTRIBUTE) pa_nil)))) (pss_one (ps_if (pt_cmpR op_eq (pv 1) (pgc T.c_EQUALS) (nomark _)) (pss_one (ps_fld (pv 0) (pgc T.c_BEHIND_EQUALS) rfl)) (pss_cons (ps_expr (pmeth0 (pv 0) T.cl_Reader D_Reader_end_attribute (hr.mono (by decide)))) (pss_one (ps_expr (pcall D_read_behind_part_of_tag (hr.mono (by decide)) rfl (pa_cons (pv 0) (pa_cons (pv 1) pa_nil)))))))))))))), ?_⟩
  unfold Mi.inAttrName at fin
  refine if_b (c := c) (fun e => ?_) (fun e => ?_)
  · rw [if_pos e] at fin
    exact name_nam T.t a S.nam fin
  · rw [if_neg e] at fin
    have go : ∀ H1, Wh (CB B) ρ H p m H1 → (∀ H', Wh (CB B) ρ H p (if Vaesca.isTwice m = true then m.fail 3 else if c = 61 then m.go .eq else Mi.behindPart (Vaesca.endAttr m) c) H' → Q .non H') →
        tIfS (tB (tDIn (tCB (fun xs H Q => ∃ p ys, xs = [V.ref p] ∧ ((SqL K H p ys ∧ ∀ l, H l = none → Q (.ref l) (upd H l (.tup ys))) ∨ (SqT K H p ys ∧ Q (.ref p) H))) (tCons (tFld K (tVar 0) "attribute_name") tNil)) (tFld K (tVar 0) "attributes")))
          (tDrop (tMeth B.C_Reader "fail" (spFail (CB B)) [] E0 (tVar 0) (tCons (tC (.int 3)) tNil)))
          (tIfS (tTest (tOp rEq (tVar 1) (tC (.int 61)))) (sFld K (tVar 0) (tC (.int 11)) "mode")
            (tSeq (tDrop (tMeth B.C_Reader "end_attribute" (spEA (CB B)) [] E0 (tVar 0) tNil)) (tDrop (tCall (spStep (CB B) (fun m _ => m.tokens.length < sizeLine) Mi.behindPart) [] E0 (tCons (tVar 0) (tCons (tVar 1) tNil))))))
          { nx := fun _ H' => Q .non H', rt := Q } (L2.start ["reader", "sign"] [.ref p, .int (c : Int)]) H1 := by
      intro H1 a1 fin
      obtain ⟨o, ⟨ρ1, A, R, F⟩, ho⟩ := a1
      obtain ⟨la, kvs, hk, pk⟩ := id (R.att rfl)
      dsimp only [tIfS, tB, tDIn, tCB, tCons]
      refine R.g_nam T.t rfl ⟨A.nam, _, rfl, .inl ⟨SqL.of R.nam.1, fun l hl => ?_⟩⟩
      have S2 : Same H1 (upd H1 l (.tup (nats m.attr))) := Same.upd hl
      have a2 : Wh (CB B) ρ H p m (upd H1 l (.tup (nats m.attr))) := ⟨o, At.same ⟨ρ1, A, R, F⟩ S2, ho⟩
      obtain ⟨ρ2, T2, n2⟩ := Stay.same1 (ρ := ρ1) S2
      have R2 := R.keep T2 fun _ _ => trivial
      refine R2.g_att T.t rfl ⟨A.att, _, rfl, DGet.t (k := keys m.attr) (S2 _ _ hk) (by rw [keys_kV]; exact upd_same), _, rfl, ?_⟩
      rw [← isTwice_val pk]
      refine ite2 (fun e => ?_) fun e => ?_
      · rw [if_pos (show Vaesca.isTwice m = true from e)] at fin
        exact a2.failC 3 fin
      · rw [if_neg (show ¬ Vaesca.isTwice m = true from e)] at fin
        refine if_eq (a := 61) (c := c) (fun e2 => ?_) (fun e2 => ?_)
        · rw [if_pos e2] at fin
          exact a2.goC T.t .eq fin
        · rw [if_neg e2] at fin
          dsimp only [tSeq]
          refine a2.endA (by simpa using (show ¬ Vaesca.isTwice m = true from e)) (by have := S.att; omega) fun H3 a3 => ?_
          exact a3.step (by show m.tokens.length < _; have := S.tok; omega) fin
    refine ⟨_, rfl, c, rfl, _, rfl, ?_⟩
    cases eb : Vaesca.isBlank c with
    | true =>
      refine iteF (iteF ?_)
      rw [if_neg (fun z => by rw [eb] at z; cases z.1)] at fin
      exact go H a fin
    | false =>
      refine iteT ⟨_, rfl, (by show 3 ≤ sizeLine; decide), fun q hq => ⟨q, _, rfl, .inr (SqT.of upd_same), rfl, rfl, _, rfl, ?_⟩⟩
      have e3 : inV (.int (c : Int)) [.int 47, .int 62, .int 61] = [47, 62, 61].contains c := inV_nat c [47, 62, 61]
      dsimp only
      rw [if_pos rfl, e3]
      obtain ⟨o, a0, ho⟩ := a
      have a1 : Wh (CB B) ρ H p m (upd H q (.tup [.int 47, .int 62, .int 61])) := ⟨o, a0.same (Same.upd hq), ho⟩
      refine ite2 (fun e4 => ?_) fun e4 => ?_
      · rw [if_pos ⟨eb, by simpa using e4⟩] at fin
        exact a1.failC 1 fin
      · rw [if_neg (fun z => e4 (by simpa using z.2))] at fin
        exact go _ a1 fin
theorem D_read_behind_equals (T : Tx P w K mg B) : DefOk P w K mg base "read_behind_equals" B.f_read_behind_equals 3 ["reader", "sign"] (spStep (CB B) (fun m _ => Sm m ∧ Vaesca.isTwice m = false) Mi.inEq) := by
  have D_is_mark := D_is_mark (base := base) T
  have D_is_bare_sign := D_is_bare_sign (base := base) T
  have D_Reader_fail := D_Reader_fail (base := base) T
  have D_Reader_end_attribute := D_Reader_end_attribute (base := base) T
  refine mkDef T.f_read_behind_equals sc_read_behind_equals spM_len fun cdv A0 outer s0 H vs Q E hr h => ?_
  obtain ⟨p, as, ρ, m, m', rfl, _, a, ⟨c, rfl, ⟨S, htw⟩, rfl⟩, fin⟩ := h
  refine ⟨_, (pss_one (ps_if (pt_cmpR op_eq (pv 1) (pgc T.c_QUOTE) (nomark _)) (pss_one (ps_fld (pv 0) (pgc T.c_VALUE_IN_QUOTES) rfl)) (pss_one (ps_if (pt_cmpR op_eq (pv 1) (pgc T.c_APOSTROPHE) (nomark _)) (pss_one (ps_fld (pv 0) (pgc T.c_VALUE_IN_APOSTROPHES) rfl)) (pss_one (ps_if (pt_cmpR op_eq (pv 1) (pgc T.c_AMPERSAND) (nomark _)) (pss_one (ps_fld (pv 0) (pgc T.c_REFERENCE_IN_BARE_VALUE) rfl)) (pss_one (ps_if (pt_val (pcall D_is_mark (hr.mono (by decide)) rfl (pa_cons (pv 1) pa_nil))) (pss_cons (ps_expr (pe_bm PySem.F.plainAttrs_list PySem.F.slot_list_append PySem.F.type_list_append mt_append (pe_fld (pv 0) rfl) (pa_cons (pv 1) pa_nil))) (pss_cons (ps_expr (pmeth0 (pv 0) T.cl_Reader D_Reader_end_attribute (hr.mono (by decide)))) (pss_one (ps_fld (pv 0) (pgc T.c_BEHIND_VALUE) rfl)))) (pss_one (ps_if (pt_val (pcall D_is_bare_sign (hr.mono (by decide)) rfl (pa_cons (pv 1) pa_nil))) (pss_cons (ps_expr (pe_bm PySem.F.plainAttrs_list PySem.F.slot_list_append PySem.F.type_list_append mt_append (pe_fld (pv 0) rfl) (pa_cons (pv 1) pa_nil))) (pss_one (ps_fld (pv 0) (pgc T.c_BARE_VALUE) rfl))) (pss_one (ps_expr (pmeth (pv 0) T.cl_Reader D_Reader_fail (hr.mono (by decide)) (pa_cons (pgc T.c_WRONG_BYTE) pa_nil)))))))))))))), ?_⟩
  unfold Mi.inEq at fin
  refine if_eq (a := 34) (c := c) (fun e => ?_) (fun e => ?_)
  · rw [if_pos e] at fin
    exact a.goC T.t .double fin
  rw [if_neg e] at fin
  refine if_eq (a := 39) (c := c) (fun e => ?_) (fun e => ?_)
  · rw [if_pos e] at fin
    exact a.goC T.t .single fin
  rw [if_neg e] at fin
  refine if_eq (a := 38) (c := c) (fun e => ?_) (fun e => ?_)
  · rw [if_pos e] at fin
    exact a.goC T.t (.ref .bare) fin
  rw [if_neg e] at fin
  refine if_b (c := c) (fun e => ?_) (fun e => ?_)
  · rw [if_pos e] at fin
    dsimp only [tSeq]
    refine a.appV T.t (c := c) (by have := S.run; omega) fun H1 a1 => ?_
    dsimp only [tSeq]
    refine a1.endA htw (by show m.attrs.length < _; have := S.att; omega) fun H2 a2 => ?_
    exact a2.goC T.t .behind fin
  rw [if_neg e] at fin
  refine if_b (c := c) (fun e => ?_) (fun e => ?_)
  · rw [if_pos e] at fin
    dsimp only [tSeq]
    refine a.appV T.t (c := c) (by have := S.run; omega) fun H1 a1 => ?_
    exact a1.goC T.t .bare fin
  rw [if_neg e] at fin
  exact a.failC 1 fin
theorem D_read_between (T : Tx P w K mg B) : DefOk P w K mg base "read_between" B.f_read_between 2 ["reader", "sign", "closing", "reference_mode"]
    (spM (CB B) 3 fun as m m' => ∃ (c q : Nat) (h : Home), as = [.int (c : Int), .int (q : Int), .int ((Mode.ref h).code : Int)] ∧ Sm m ∧ Vaesca.isTwice m = false ∧ m' = Mi.inBetween q h m c) := by
  have D_Reader_end_attribute := D_Reader_end_attribute (base := base) T
  refine mkDef T.f_read_between sc_read_between spM_len fun cdv A0 outer s0 H vs Q E hr h => ?_
  obtain ⟨p, as, ρ, m, m', rfl, _, a, ⟨c, q, h, rfl, S, htw, rfl⟩, fin⟩ := h
  refine ⟨_, (pss_one (ps_if (pt_cmpR op_eq (pv 1) (pv 2) (nomark _)) (pss_cons (ps_expr (pmeth0 (pv 0) T.cl_Reader D_Reader_end_attribute (hr.mono (by decide)))) (pss_one (ps_fld (pv 0) (pgc T.c_BEHIND_VALUE) rfl))) (pss_one (ps_if (pt_cmpR op_eq (pv 1) (pgc T.c_AMPERSAND) (nomark _)) (pss_one (ps_fld (pv 0) (pv 3) rfl)) (pss_one (ps_expr (pe_bm PySem.F.plainAttrs_list PySem.F.slot_list_append PySem.F.type_list_append mt_append (pe_fld (pv 0) rfl) (pa_cons (pv 1) pa_nil)))))))), ?_⟩
  unfold Mi.inBetween at fin
  refine ⟨_, rfl, _, rfl, rfl, _, rfl, ?_⟩
  rw [dec_eq]
  refine ite2 (fun e => ?_) fun e => ?_
  · rw [if_pos (eq_of_beq e)] at fin
    dsimp only [tSeq]
    refine a.endA htw (by have := S.att; omega) fun H2 a2 => ?_
    exact a2.goC T.t .behind fin
  · rw [if_neg (fun z => e (by rw [z]; exact beq_self_eq_true q))] at fin
    refine if_eq (a := 38) (c := c) (fun e => ?_) (fun e => ?_)
    · rw [if_pos e] at fin
      refine a.s_mode T.t (.ref h) ?_ ?_ ?_ ?_ fin
      · rfl
      · exact fun Q q => ⟨_, rfl, q⟩
      · intro z; cases z
      · intro z; cases z
    · rw [if_neg e] at fin
      exact a.appV T.t (by have := S.run; omega) fin
theorem D_read_in_quotes (T : Tx P w K mg B) : DefOk P w K mg base "read_in_quotes" B.f_read_in_quotes 3 ["reader", "sign"] (spStep (CB B) (fun m _ => Sm m ∧ Vaesca.isTwice m = false) (Mi.inBetween 34 .double)) := by
  have D_read_between := D_read_between (base := base) T
  refine mkDef T.f_read_in_quotes sc_read_in_quotes spM_len fun cdv A0 outer s0 H vs Q E hr h => ?_
  obtain ⟨p, as, ρ, m, m', rfl, _, a, ⟨c, rfl, ⟨S, htw⟩, rfl⟩, fin⟩ := h
  refine ⟨_, (pss_one (ps_expr (pcall D_read_between (hr.mono (by decide)) rfl (pa_cons (pv 0) (pa_cons (pv 1) (pa_cons (pgc T.c_QUOTE) (pa_cons (pgc T.c_REFERENCE_IN_QUOTES) pa_nil))))))), ?_⟩
  refine a.call (as := [.int (c : Int), .int 34, .int 2]) ?_ ?_ ⟨c, 34, .double, rfl, S, htw, rfl⟩ rfl fin
  · rfl
  · exact fun Q q => ⟨_, rfl, q⟩
theorem D_read_in_apostrophes (T : Tx P w K mg B) : DefOk P w K mg base "read_in_apostrophes" B.f_read_in_apostrophes 3 ["reader", "sign"] (spStep (CB B) (fun m _ => Sm m ∧ Vaesca.isTwice m = false) (Mi.inBetween 39 .single)) := by
  have D_read_between := D_read_between (base := base) T
  refine mkDef T.f_read_in_apostrophes sc_read_in_apostrophes spM_len fun cdv A0 outer s0 H vs Q E hr h => ?_
  obtain ⟨p, as, ρ, m, m', rfl, _, a, ⟨c, rfl, ⟨S, htw⟩, rfl⟩, fin⟩ := h
  refine ⟨_, (pss_one (ps_expr (pcall D_read_between (hr.mono (by decide)) rfl (pa_cons (pv 0) (pa_cons (pv 1) (pa_cons (pgc T.c_APOSTROPHE) (pa_cons (pgc T.c_REFERENCE_IN_APOSTROPHES) pa_nil))))))), ?_⟩
  refine a.call (as := [.int (c : Int), .int 39, .int 3]) ?_ ?_ ⟨c, 39, .single, rfl, S, htw, rfl⟩ rfl fin
  · rfl
  · exact fun Q q => ⟨_, rfl, q⟩
theorem D_read_in_bare_value (T : Tx P w K mg B) : DefOk P w K mg base "read_in_bare_value" B.f_read_in_bare_value 6 ["reader", "sign"] (spStep (CB B) (fun m _ => Sm m ∧ Vaesca.isTwice m = false) Mi.inBare) := by
  have D_is_mark := D_is_mark (base := base) T
  have D_is_bare_sign := D_is_bare_sign (base := base) T
  have D_is_blank := D_is_blank (base := base) T
  have D_Reader_fail := D_Reader_fail (base := base) T
  have D_Reader_end_attribute := D_Reader_end_attribute (base := base) T
  have D_read_behind_part_of_tag := D_read_behind_part_of_tag (base := base) T
  refine mkDef T.f_read_in_bare_value sc_read_in_bare_value spM_len fun cdv A0 outer s0 H vs Q E hr h => ?_
  obtain ⟨p, as, ρ, m, m', rfl, _, a, ⟨c, rfl, ⟨S, htw⟩, rfl⟩, fin⟩ := h
  refine ⟨_, (pss_one (ps_if (PW.pt (pw_or (pt_val (pcall D_is_bare_sign (hr.mono (by decide)) rfl (pa_cons (pv 1) pa_nil))) (pw_or1 (pt_val (pcall D_is_mark (hr.mono (by decide)) rfl (pa_cons (pv 1) pa_nil)))))) (pss_one (ps_expr (pe_bm PySem.F.plainAttrs_list PySem.F.slot_list_append PySem.F.type_list_append mt_append (pe_fld (pv 0) rfl) (pa_cons (pv 1) pa_nil)))) (pss_one (ps_if (pt_cmpR op_eq (pv 1) (pgc T.c_AMPERSAND) (nomark _)) (pss_one (ps_fld (pv 0) (pgc T.c_REFERENCE_IN_BARE_VALUE) rfl)) (pss_one (ps_if (PW.pt (pw_or (pt_val (pcall D_is_blank (hr.mono (by decide)) rfl (pa_cons (pv 1) pa_nil))) (pw_or1 (pt_cmpR op_eq (pv 1) (pgc T.c_GREATER) (nomark _))))) (pss_cons (ps_expr (pmeth0 (pv 0) T.cl_Reader D_Reader_end_attribute (hr.mono (by decide)))) (pss_one (ps_expr (pcall D_read_behind_part_of_tag (hr.mono (by decide)) rfl (pa_cons (pv 0) (pa_cons (pv 1) pa_nil)))))) (pss_one (ps_expr (pmeth (pv 0) T.cl_Reader D_Reader_fail (hr.mono (by decide)) (pa_cons (pgc T.c_WRONG_BYTE) pa_nil)))))))))), ?_⟩
  unfold Mi.inBare at fin
  have or2 : ∀ {x y : Bool} {A B : Prop}, (x = true ∨ y = true → A) → (¬ (x = true ∨ y = true) → B) → (if x = true then (if true = true then A else B) else (if y = true then A else B)) := by
    intro x y A B h1 h2
    cases x <;> cases y <;> simp at h1 h2 ⊢ <;> first | exact h1 | exact h2
  refine ⟨_, rfl, c, rfl, _, rfl, ?_⟩
  have g1 : ∀ {A B : Prop}, (Vaesca.isBare c = true ∨ Vaesca.isMark c = true → A) → (¬ (Vaesca.isBare c = true ∨ Vaesca.isMark c = true) → B) →
    (if Vaesca.isBare c = true then (if true = true then A else B) else tB (tCall (spB Vaesca.isMark) [] E0 (tCons (tVar 1) tNil)) (L2.start ["reader", "sign"] [.ref p, .int (c : Int)]) H fun b H1 => if b = true then A else B) := by
    intro A B h1 h2
    cases e1 : Vaesca.isBare c with
    | true => exact iteT (iteT (h1 (.inl e1)))
    | false =>
      refine iteF ⟨_, rfl, c, rfl, _, rfl, ?_⟩
      exact ite2 (fun z => h1 (.inr z)) fun z => h2 fun y => y.elim (fun q => by rw [e1] at q; cases q) z
  cases e1 : Vaesca.isBare c with
  | true =>
    rw [if_pos (.inl e1)] at fin
    exact iteT (iteT (a.appV T.t (by have := S.run; omega) fin))
  | false =>
    refine iteF ⟨_, rfl, c, rfl, _, rfl, ?_⟩
    refine ite2 (fun e2 => ?_) fun e2 => ?_
    · rw [if_pos (.inr e2)] at fin
      exact a.appV T.t (by have := S.run; omega) fin
    rw [if_neg (fun y => y.elim (fun q => by rw [e1] at q; cases q) e2)] at fin
    refine if_eq (a := 38) (c := c) (fun e => ?_) (fun e => ?_)
    · rw [if_pos e] at fin
      exact a.goC T.t (.ref .bare) fin
    rw [if_neg e] at fin
    have yes : (Vaesca.isBlank c = true ∨ c = 62) → (tSeq (tDrop (tMeth B.C_Reader "end_attribute" (spEA (CB B)) [] E0 (tVar 0) tNil)) (tDrop (tCall (spStep (CB B) (fun m _ => m.tokens.length < sizeLine) Mi.behindPart) [] E0 (tCons (tVar 0) (tCons (tVar 1) tNil)))))
        { nx := fun _ H' => Q .non H', rt := Q } (L2.start ["reader", "sign"] [.ref p, .int (c : Int)]) H := by
      intro z
      rw [if_pos z] at fin
      dsimp only [tSeq]
      refine a.endA htw (by have := S.att; omega) fun H3 a3 => ?_
      exact a3.step (by show m.tokens.length < _; have := S.tok; omega) fin
    refine ⟨_, rfl, c, rfl, _, rfl, ?_⟩
    refine ite2 (fun e3 => iteT (yes (.inl e3))) fun e3 => ?_
    refine ⟨_, rfl, rfl, _, rfl, ?_⟩
    rw [show decide (V.int (c : Int) = V.int 62) = (c == 62) from dec_eq 62 c]
    refine ite2 (fun e4 => yes (.inr (eq_of_beq e4))) fun e4 => ?_
    rw [if_neg (fun z => z.elim e3 fun q => e4 (by rw [q]; rfl))] at fin
    exact a.failC 1 fin
theorem D_end_raw_element (T : Tx P w K mg B) : DefOk P w K mg base "end_raw_element" B.f_end_raw_element 5 ["reader"] (spUnit (CB B) (fun m => Sm m ∧ m.tag.length + 2 ≤ m.count) Mi.endRaw) := by
  have D_Reader_end_run := D_Reader_end_run (base := base) T
  have D_end_close_tag := D_end_close_tag (base := base) T
  refine mkDef T.f_end_raw_element sc_end_raw_element spM_len fun cdv A0 outer s0 H vs Q E hr h => ?_
  obtain ⟨p, as, ρ, m, m', rfl, _, a, ⟨rfl, ⟨S, hc⟩, rfl⟩, fin⟩ := h
  refine ⟨_, (pss_cons (ps_if (pt_cmpR (op_neD hr.units) (pe_fld (pv 0) rfl) (pe_lst pa_nil) (nomark _)) (pss_cons (ps_set (i := 1) sc_end_raw_element.nd rfl (Or.inl rfl) (pe_op op_sub (pe_op op_sub (pe_fld (pv 0) rfl) (pe_callB call_len rfl T.n_len PySem.boot_len (pa_cons (pe_fld (pv 0) rfl) pa_nil))) pe_int)) (pss_one (ps_expr (pmeth (pv 0) T.cl_Reader D_Reader_end_run (hr.mono (by decide)) (pa_cons (pgc T.c_RAW_TEXT_TOKEN) (pa_cons (pv 1) pa_nil)))))) pss_nil) (pss_cons (ps_fld (pv 0) (pe_lst pa_nil) rfl) (pss_one (ps_expr (pcall D_end_close_tag (hr.mono (by decide)) rfl (pa_cons (pv 0) pa_nil)))))), ?_⟩
  unfold Mi.endRaw at fin
  have rest : ∀ (m2 : Reader) (σ : L2.St) (H1 : Hp), Wh (CB B) ρ H p m2 H1 → σ[0]? = some (some (.ref p)) → m2.tokens.length < sizeLine → (∀ H', Wh (CB B) ρ H p (Mi.endClose { m2 with body := [] }) H' → Q .non H') →
      tSeq (sFld K (tVar 0) (tLst tNil) "body") (tDrop (tCall (spUnit (CB B) (fun m => m.tokens.length < sizeLine) Mi.endClose) [] E0 (tCons (tVar 0) tNil))) { nx := fun _ H' => Q .non H', rt := Q } σ H1 := by
    intro m2 σ H1 a1 hp hz fin
    dsimp only [tSeq]
    obtain ⟨o, a1, ho⟩ := a1
    refine a1.s_bod T.t [] hp ?_ fun H2 a2 => ?_
    · exact fun Q q => ⟨Nat.zero_le _, q⟩
    have a3 : Wh (CB B) ρ H p { m2 with body := [] } H2 := ⟨o, a2, ho⟩
    exact a3.unit hz fin hp
  dsimp only [tSeq]
  refine if_run T.t a (fun e H1 a1 => ?_) fun e H1 a1 => ?_
  · rw [if_neg e] at fin
    obtain ⟨o, ⟨ρ1, A1, R1, F1⟩, ho⟩ := id a1
    dsimp only [tSeq]
    show tOp _ _ _ _ _ _
    dsimp only [tOp]
    refine R1.g_count T.t rfl ?_
    dsimp only [tCB, tCons]
    refine R1.g_tag T.t rfl ?_
    refine ⟨_, _, rfl, .inl ⟨_, SqL.of R1.tag.1, rfl⟩, _, _, rfl, rfl, _, _, rfl, rfl, ?_⟩
    have e2 : (m.count : Int) - ((nats m.tag).length : Int) - 2 = ((m.count - m.tag.length - 2 : Nat) : Int) := by rw [nats_len]; omega
    dsimp only [gName]
    rw [e2]
    refine a1.meth (as := [.int 4, .int ((m.count - m.tag.length - 2 : Nat) : Int)]) ?_ ?_ ⟨4, m.count - m.tag.length - 2, rfl, .inr (.inr rfl), by have := S.tok; omega, rfl⟩ rfl (fun _ _ => rfl) fun H2 a2 => ?_
    · rfl
    · exact fun Q q => ⟨_, rfl, q⟩
    exact rest _ _ _ a2 rfl (by show (m.tokens ++ [_]).length < _; rw [List.length_append, List.length_singleton]; have := S.tok; omega) fin
  · rw [if_pos e] at fin
    exact rest _ _ _ a1 rfl (by have := S.tok; omega) fin
theorem D_read_in_raw_close_tag (T : Tx P w K mg B) : DefOk P w K mg base "read_in_raw_close_tag" B.f_read_in_raw_close_tag 6 ["reader", "sign"] (spStep (CB B) (fun m _ => Sm m ∧ m.body.length + 2 ≤ m.count) Mi.inRawEnd) := by
  have D_end_raw_element := D_end_raw_element (base := base) T
  have D_Reader_fail := D_Reader_fail (base := base) T
  refine mkDef T.f_read_in_raw_close_tag sc_read_in_raw_close_tag spM_len fun cdv A0 outer s0 H vs Q E hr h => ?_
  obtain ⟨p, as, ρ, m, m', rfl, _, a, ⟨c, rfl, ⟨S, hc⟩, rfl⟩, fin⟩ := h
  refine ⟨_, (pss_cons (ps_set (i := 2) sc_read_in_raw_close_tag.nd rfl (Or.inl rfl) (pe_slice sl_list (pe_fld (pv 0) rfl) (po_some (pe_callB call_len rfl T.n_len PySem.boot_len (pa_cons (pe_fld (pv 0) rfl) pa_nil))) po_none)) (pss_one (ps_if (PW.pt (pw_and (pt_cmpR (op_eqD hr.units) (pv 2) (pe_lst pa_nil) (nomark _)) (pw_and1 (pt_cmpR op_eq (pv 1) (pgc T.c_GREATER) (nomark _))))) (pss_one (ps_expr (pcall D_end_raw_element (hr.mono (by decide)) rfl (pa_cons (pv 0) pa_nil)))) (pss_one (ps_if (pt_cmpR (op_eqD hr.units) (pe_slice sl_list (pv 2) po_none (po_some pe_int)) (pe_lst (pa_cons (pv 1) pa_nil)) (nomark _)) (pss_one (ps_expr (pe_bm PySem.F.plainAttrs_list PySem.F.slot_list_append PySem.F.type_list_append mt_append (pe_fld (pv 0) rfl) (pa_cons (pv 1) pa_nil)))) (pss_one (ps_expr (pmeth (pv 0) T.cl_Reader D_Reader_fail (hr.mono (by decide)) (pa_cons (pgc T.c_WRONG_RAW_END) pa_nil))))))))), ?_⟩
  unfold Mi.inRawEnd at fin
  obtain ⟨o, ⟨ρ1, A1, R1, F1⟩, ho⟩ := id a
  dsimp only [tSeq]
  show tSl _ _ _ _ _ _ _
  dsimp only [tSl, tPart, tCB, tCons]
  refine R1.g_tag T.t rfl ?_
  refine R1.g_bod T.t rfl ?_
  refine ⟨_, _, rfl, .inl ⟨_, SqL.of R1.bod.1, rfl⟩, _, rfl, ?_⟩
  refine ⟨_, _, rfl, SqL.of R1.tag.1, fun l hl => ?_⟩
  rw [nats_len, cut_lo (α := Nat), nats_drop]
  have a1 : Wh (CB B) ρ H p m (upd H l (.lst (nats (m.tag.drop m.body.length)))) := ⟨o, At.same ⟨ρ1, A1, R1, F1⟩ (Same.upd hl), ho⟩
  have hl1 : upd H l (.lst (nats (m.tag.drop m.body.length))) l = some (.lst (nats (m.tag.drop m.body.length))) := upd_same
  have hq : m.tag.drop m.body.length = [] → m.tag.length + 2 ≤ m.count := fun z => by
    have := List.drop_eq_nil_iff.mp z
    omega
  generalize m.tag.drop m.body.length = rest at a1 hl1 fin hq
  generalize upd H l (.lst (nats rest)) = H1 at a1 hl1
  dsimp only [gName]
  have no : ∀ H2, Same H1 H2 → ¬ (rest = [] ∧ c = 62) →
      tIfS (tTest (tOp (rEqD K) (tSl (rSlL K) (tVar 2) tNoPart (tPart (tC (.int 1)))) (tLst (tCons (tVar 1) tNil)))) (tDrop (tBM K "list" rAppend (tFld K (tVar 0) "body") (tCons (tVar 1) tNil))) (tDrop (tMeth B.C_Reader "fail" (spFail (CB B)) [] E0 (tVar 0) (tCons (tC (.int 6)) tNil)))
        { nx := fun _ H' => Q .non H', rt := Q } ((L2.start ["reader", "sign", "rest"] [.ref p, .int (c : Int)]).set 2 (some (.ref l))) H2 := by
    intro H2 s2 hn
    rw [if_neg hn] at fin
    refine ⟨_, rfl, 1, rfl, l, _, rfl, SqL.of (s2 _ _ hl1), fun q hq2 => ?_⟩
    rw [show (some (1 : Int)) = some ((1 : Nat) : Int) from rfl, cut_hi, nats_take]
    refine ⟨_, rfl, (by show 1 ≤ sizeLine; decide), fun r hr2 => ?_⟩
    have s3 := Same.upd (ob := .lst [.int (c : Int)]) hr2
    refine ⟨.list (dN (rest.take 1)), .list (dN [c]), .lst (SqL.of (Same.upd hr2 _ _ upd_same)) (dN_all _), .lst (SqL.of upd_same) (dN_all [c]), dN_shL _, dN_shL _, _, rfl, ?_⟩
    rw [eqvL]
    obtain ⟨o, a1, ho⟩ := a1
    have a2 : Wh (CB B) ρ H p m _ := ⟨o, (a1.same s2).same ((Same.upd hq2).trans s3), ho⟩
    refine ite2 (fun e => ?_) fun e => ?_
    · rw [if_pos (eq_of_beq e)] at fin
      refine a2.s_bodApp T.t c ?_ ?_ S.bod fin
      · rfl
      · exact fun Q q => ⟨_, rfl, q⟩
    · rw [if_neg (fun z => e (by rw [z]; exact beq_self_eq_true _))] at fin
      exact a2.failC 6 fin
  refine ⟨_, rfl, Nat.zero_le _, fun q hq2 => ⟨.list (dN rest), .list (dN []), .lst (SqL.of (Same.upd hq2 _ _ hl1)) (dN_all _), .lst (SqL.of upd_same) .nil, dN_shL _, dN_shL _, _, rfl, ?_⟩⟩
  rw [eqvL]
  refine ite2 (fun e => ?_) fun e => ?_
  · refine ⟨_, rfl, rfl, _, rfl, ?_⟩
    rw [show decide (V.int (c : Int) = V.int 62) = (c == 62) from dec_eq 62 c]
    refine ite2 (fun e2 => ?_) fun e2 => ?_
    · rw [if_pos ⟨eq_of_beq e, eq_of_beq e2⟩] at fin
      obtain ⟨o, a1, ho⟩ := a1
      have a2 : Wh (CB B) ρ H p m (upd H1 q (.lst [])) := ⟨o, a1.same (Same.upd hq2), ho⟩
      exact a2.unit ⟨S, hq (eq_of_beq e)⟩ fin
    · exact no _ (Same.upd hq2) fun z => e2 (by rw [z.2]; rfl)
  · exact iteF (no _ (Same.upd hq2) fun z => e (by rw [z.1]; rfl))
end
end Mr
end
section
set_option Elab.async false
set_option linter.all false
set_option maxRecDepth 100000
set_option maxHeartbeats 2000000
namespace Mr
open PySem PySem.Spec PyProof.Rows L2 Hr
open Vaesca (Text Token Reader Mode Home)
def dv (c : Nat) : Nat := match Vaesca.hexOf c with | some n => n | none => 16
def numGo (b : Nat) : Nat → Text → Option Nat
  | n, [] => some n
  | n, c :: r => if b ≤ dv c then none else numGo b (n * b + dv c) r
def numB (t : Text) (b k : Nat) : Option Nat := if 1 ≤ t.length ∧ t.length ≤ k then (match numGo b 0 t with | some n => if n ≤ 255 then some n else none | none => none) else none
def refB (t : Text) : Option Nat :=
  if t = [97, 109, 112] then some 38 else if t = [108, 116] then some 60 else if t = [103, 116] then some 62 else if t = [113, 117, 111, 116] then some 34 else if t = [97, 112, 111, 115] then some 39
  else if t.take 2 = [35, 120] then numB (t.drop 2) 16 2 else if t.take 1 = [35] then numB (t.drop 1) 10 3 else none
theorem hex_lt {c n : Nat} (h : Vaesca.hexOf c = some n) : n < 16 := by
  unfold Vaesca.hexOf Vaesca.isDigit at h
  split at h
  · rename_i q; simp at q; cases h; omega
  · split at h
    · cases h; omega
    · split at h
      · cases h; omega
      · cases h
theorem dv_hex {c : Nat} : (16 ≤ dv c ↔ Vaesca.hexOf c = none) := by
  unfold dv
  cases h : Vaesca.hexOf c with
  | none => simp
  | some n => have := hex_lt h; simp; omega
theorem numB_hex (h : Text) : numB h 16 2 = Vaesca.byHex h := by
  unfold numB Vaesca.byHex
  match h with
  | [] => rfl
  | [a] =>
    rw [if_pos (by simp)]
    simp only [numGo]
    cases e : Vaesca.hexOf a with
    | none => rw [if_pos (dv_hex.mpr e)]
    | some n =>
      have := hex_lt e
      have e2 : dv a = n := by unfold dv; rw [e]
      rw [e2, if_neg (by omega)]
      simp only
      rw [if_pos (by omega)]
      simp
  | [a, b] =>
    rw [if_pos (by simp)]
    simp only [numGo]
    cases e : Vaesca.hexOf a with
    | none => rw [if_pos (dv_hex.mpr e)]; rfl
    | some n =>
      have h1 := hex_lt e
      have e2 : dv a = n := by unfold dv; rw [e]
      rw [e2, if_neg (by omega)]
      cases f : Vaesca.hexOf b with
      | none => rw [if_pos (dv_hex.mpr f)]; rfl
      | some k =>
        have h2 := hex_lt f
        have f2 : dv b = k := by unfold dv; rw [f]
        rw [f2, if_neg (by omega)]
        simp only
        rw [if_pos (by omega)]
        show _ = some (16 * n + k)
        congr 1
        omega
  | _ :: _ :: _ :: r => rw [if_neg (by simp)]
theorem dv_dig {c : Nat} : (10 ≤ dv c ↔ Vaesca.isDigit c = false) ∧ (Vaesca.isDigit c = true → dv c = c - 48) := by
  unfold dv Vaesca.hexOf
  cases h : Vaesca.isDigit c with
  | true =>
    unfold Vaesca.isDigit at h
    simp at h
    refine ⟨?_, ?_⟩
    · simp; omega
    · simp
  | false =>
    refine ⟨?_, fun z => by cases z⟩
    simp
    split <;> rename_i q
    · split at q
      · cases q; omega
      · split at q
        · cases q; omega
        · cases q
    · decide
theorem numGo_dig : ∀ (t : Text) (n : Nat), numGo 10 n t = if t.all Vaesca.isDigit = true then some (t.foldl (fun n c => 10 * n + (c - 48)) n) else none
  | [], n => rfl
  | c :: r, n => by
    rw [numGo, List.all_cons, List.foldl_cons]
    cases h : Vaesca.isDigit c with
    | true =>
      have e := dv_dig.2 h
      have q : ¬ 10 ≤ dv c := fun z => by rw [dv_dig.1.mp z] at h; cases h
      rw [if_neg q, numGo_dig r, e, Bool.true_and, Nat.mul_comm n 10]
    | false => rw [if_pos (dv_dig.1.mpr h)]; rfl
theorem numB_dig (d : Text) : numB d 10 3 = Vaesca.byDigits d := by
  unfold numB Vaesca.byDigits Vaesca.decimal
  by_cases h : 1 ≤ d.length ∧ d.length ≤ 3
  · rw [if_pos h, numGo_dig]
    have e1 : (d.length == 0) = false := by rw [beq_eq_false_iff_ne]; omega
    have e2 : decide (3 < d.length) = false := by rw [decide_eq_false_iff_not]; omega
    rw [e1, e2]
    cases h2 : d.all Vaesca.isDigit with
    | true =>
      simp only [if_pos, Bool.false_or, Bool.not_true]
      by_cases h3 : d.foldl (fun n c => 10 * n + (c - 48)) 0 ≤ 255
      · rw [if_pos h3, if_neg (by decide), if_pos (by omega)]
      · rw [if_neg h3, if_neg (by decide), if_neg (by omega)]
    | false => simp
  · rw [if_neg h]
    have : (d.length == 0 || decide (3 < d.length) || !d.all Vaesca.isDigit) = true := by
      by_cases q : d.length = 0
      · rw [q]; rfl
      · have : 3 < d.length := by omega
        rw [decide_eq_true this]; simp
    rw [this, if_pos rfl]
theorem refB_eq (t : Text) : refB t = Vaesca.byteOf t := by
  unfold refB Vaesca.byteOf
  simp only [beq_iff_eq]
  have tail : (if t.take 2 = [35, 120] then numB (t.drop 2) 16 2 else if t.take 1 = [35] then numB (t.drop 1) 10 3 else none) = (match t with | 35 :: 120 :: h => Vaesca.byHex h | 35 :: d => Vaesca.byDigits d | _ => none) := by
    match t with
    | [] => rfl
    | [c] =>
      by_cases h : c = 35
      · subst h
        rw [if_neg (by decide), if_pos (by rfl), numB_dig]
        rfl
      · rw [if_neg (by simp), if_neg (by simpa using h)]
        split
        · rename_i q; injection q with q; exact (h q).elim
        · rename_i q; injection q with q; exact (h q).elim
        · rfl
    | c :: d :: r =>
      by_cases h : c = 35
      · subst h
        by_cases h2 : d = 120
        · subst h2
          rw [if_pos (by rfl)]
          exact numB_hex r
        · rw [if_neg (by simpa using h2), if_pos (by rfl), numB_dig]
          split
          · rename_i q; injection q with _ q; injection q with q; exact (h2 q).elim
          · rename_i q; injection q with _ q; rw [← q]; rfl
          · rename_i q; exact (q _ rfl).elim
      · rw [if_neg (by simp [h]), if_neg (by simpa using h)]
        split
        · rename_i q; injection q with q; exact (h q).elim
        · rename_i q; injection q with q; exact (h q).elim
        · rfl
  rw [tail]
  rfl
def optV : Option Nat → V
  | some n => .int (n : Int)
  | none => .non
section
variable {K : PySem.W.Frag} {H : Hp} {σ : L2.St} {D : Ends} {i : Nat} {t u : TS}
theorem if_rng {lo hi c : Nat} {v v' : V} (h1 : lo ≤ c ∧ c ≤ hi → t D σ H) (h2 : ¬ (lo ≤ c ∧ c ≤ hi) → u D σ H) (hc : σ[i]? = some (some (.int (c : Int))) := by rfl) (e1 : v = .int (lo : Int) := by rfl) (e2 : v' = .int (hi : Int) := by rfl) :
    tIfS (tTest (tChain (rI0 fun i j => .bl (decide (i ≤ j))) (rI0 fun i j => .bl (decide (i ≤ j))) (tC v) (tVar i) (tC v'))) t u D σ H := by
  subst e1 e2
  refine ⟨_, hc, _, _, rfl, rfl, _, rfl, ?_⟩
  by_cases q1 : lo ≤ c
  · rw [dec_le, decide_eq_true q1]
    refine iteT ⟨_, _, rfl, rfl, _, rfl, ?_⟩
    rw [dec_le]
    by_cases q2 : c ≤ hi
    · rw [decide_eq_true q2]; exact iteT (h1 ⟨q1, q2⟩)
    · rw [decide_eq_false q2]; exact iteF (h2 fun z => q2 z.2)
  · rw [dec_le, decide_eq_false q1]
    exact iteF ⟨_, rfl, iteF (h2 fun z => q1 z.1)⟩
end
section
variable {P : Program} {w : World} {K : PySem.W.Frag} {mg : Str → Option Value} {base : Heap} {B : Adr}
theorem D_digit_value (T : Tx P w K mg B) : DefOk P w K mg base "digit_value" B.f_digit_value 2 ["sign"] (fun vs H Q _ => ∃ c : Nat, vs = [.int (c : Int)] ∧ Q (.int (dv c : Int)) H) := by
  have D_is_digit := D_is_digit (base := base) T
  refine mkDef T.f_digit_value sc_digit_value ?_ fun cdv A0 outer s0 H vs Q E hr h => ?_
  · rintro vs H Q E ⟨c, rfl, _⟩
    rfl
  obtain ⟨c, rfl, k⟩ := h
  refine ⟨_, (pss_cons (ps_if (pt_val (pcall D_is_digit (hr.mono (by decide)) rfl (pa_cons (pv 0) pa_nil))) (pss_one (ps_ret (pe_op op_sub (pv 0) pe_int))) pss_nil) (pss_cons (ps_if (pt_chain op_le op_le pe_int (pv 0) pe_int) (pss_one (ps_ret (pe_op op_sub (pv 0) pe_int))) pss_nil) (pss_cons (ps_if (pt_chain op_le op_le pe_int (pv 0) pe_int) (pss_one (ps_ret (pe_op op_sub (pv 0) pe_int))) pss_nil) (pss_one (ps_ret (pgc T.c_NO_DIGIT)))))), ?_⟩
  dsimp only [tSeq]
  refine if_b (c := c) (fun e => ?_) (fun e => ?_)
  · refine ⟨_, rfl, _, _, rfl, rfl, ?_⟩
    have e2 : (dv c : Int) = (c : Int) - 48 := by
      rw [dv_dig.2 e]
      unfold Vaesca.isDigit at e
      simp at e
      omega
    rw [e2] at k
    exact k
  have hx : Vaesca.hexOf c = if 97 ≤ c ∧ c ≤ 102 then some (c - 87) else if 65 ≤ c ∧ c ≤ 70 then some (c - 55) else none := by
    unfold Vaesca.hexOf
    rw [if_neg e]
  dsimp only [tNext, tSeq]
  refine if_rng (lo := 97) (hi := 102) (c := c) (fun e2 => ?_) (fun e2 => ?_)
  · refine ⟨_, rfl, _, _, rfl, rfl, ?_⟩
    have e3 : (dv c : Int) = (c : Int) - 87 := by
      unfold dv
      rw [hx, if_pos e2]
      show ((c - 87 : Nat) : Int) = _
      omega
    rw [e3] at k
    exact k
  rw [if_neg e2] at hx
  dsimp only [tNext, tSeq]
  refine if_rng (lo := 65) (hi := 70) (c := c) (fun e2 => ?_) (fun e2 => ?_)
  · refine ⟨_, rfl, _, _, rfl, rfl, ?_⟩
    have e3 : (dv c : Int) = (c : Int) - 55 := by
      unfold dv
      rw [hx, if_pos e2]
      show ((c - 55 : Nat) : Int) = _
      omega
    rw [e3] at k
    exact k
  rw [if_neg e2] at hx
  have e3 : dv c = 16 := by
    unfold dv
    rw [hx]
  rw [e3] at k
  exact k
theorem D_number_byte (T : Tx P w K mg B) : DefOk P w K mg base "number_byte" B.f_number_byte 3 ["digits", "base", "most_digits"] (fun vs H Q _ => ∃ (d : Addr) (t : Text) (b k : Nat), vs = [.ref d, .int (b : Int), .int (k : Int)] ∧ SqL K H d (nats t) ∧ b ≤ 16 ∧ Q (optV (numB t b k)) H) := by
  have D_digit_value := D_digit_value (base := base) T
  refine mkDef T.f_number_byte sc_number_byte ?_ fun cdv A0 outer s0 H vs Q E hr h => ?_
  · rintro vs H Q E ⟨d, t, b, k, rfl, _⟩
    rfl
  obtain ⟨d, t, b, k, rfl, hS, hb, q⟩ := h
  refine ⟨_, (pss_cons (ps_if (pt_not (pt_chain op_le op_le pe_int (pe_callB call_len rfl T.n_len PySem.boot_len (pa_cons (pv 0) pa_nil)) (pv 2))) (pss_one (ps_ret pe_non)) pss_nil) (pss_cons (ps_set (i := 3) sc_number_byte.nd rfl (Or.inl rfl) pe_int) (pss_cons (ps_for PassesOwn.never rfl (pi_list (pv 0)) (pg_name (i := 4) sc_number_byte.nd rfl (Or.inl rfl)) (pss_cons (ps_set (i := 5) sc_number_byte.nd rfl (Or.inl rfl) (pcall D_digit_value (hr.mono (by decide)) rfl (pa_cons (pv 4) pa_nil))) (pss_cons (ps_if (pt_cmpR op_ge (pv 5) (pv 1) (nomark _)) (pss_one (ps_ret pe_non)) pss_nil) (pss_one (ps_set (i := 3) sc_number_byte.nd rfl (Or.inl rfl) (pe_op op_add (pe_op op_mul (pv 3) (pv 1)) (pv 5))))))) (pss_one (ps_ret (pe_ifExp (pt_cmpR op_le (pv 3) pe_int (nomark _)) (pv 3) pe_non)))))), ?_⟩
  dsimp only [tSeq]
  unfold numB at q
  refine ⟨_, rfl, _, _, rfl, .inl ⟨_, hS, rfl⟩, _, _, rfl, rfl, _, rfl, ?_⟩
  rw [nats_len]
  by_cases g1 : 1 ≤ t.length
  · rw [decide_eq_true (show (1 : Int) ≤ ((t.length : Nat) : Int) by omega)]
    refine iteT ⟨_, rfl, _, _, rfl, rfl, _, rfl, ?_⟩
    rw [dec_le]
    by_cases g2 : t.length ≤ k
    · rw [decide_eq_true g2]
      rw [if_pos ⟨g1, g2⟩] at q
      refine iteF ?_
      refine ⟨_, rfl, d, rfl, ⟨_, hS⟩, for_list (K := K) (a := d) (xs := nats t) (fun i σ H' => H' = H ∧ ∃ (v4 v5 : Option V) (n : Nat), σ = [some (.ref d), some (.int (b : Int)), some (.int (k : Int)), some (.int (n : Int)), v4, v5] ∧ numGo b 0 t = numGo b n (t.drop i))
        ⟨rfl, none, none, 0, rfl, rfl⟩ (fun i σ H' _ z => by rw [z.1]; exact hS) ?_ ?_⟩
      · rintro i y σ H' hi ⟨rfl, v4, v5, n, rfl, hn⟩
        obtain ⟨c, hc, rfl⟩ : ∃ c, t[i]? = some c ∧ y = .int (c : Int) := by
          unfold nats at hi
          rw [List.getElem?_map] at hi
          cases e : t[i]? with
          | none => rw [e] at hi; cases hi
          | some z => rw [e] at hi; exact ⟨z, rfl, (Option.some.inj hi).symm⟩
        have hd : t.drop i = c :: t.drop (i + 1) := by
          obtain ⟨h1, h2⟩ := List.getElem?_eq_some_iff.mp hc
          rw [List.drop_eq_getElem_cons h1, h2]
        rw [hd, numGo] at hn
        refine ⟨_, rfl, c, rfl, ?_⟩
        refine ⟨_, rfl, _, rfl, _, _, rfl, rfl, _, rfl, ?_⟩
        rw [dec_le]
        by_cases g3 : b ≤ dv c
        · rw [decide_eq_true g3]
          rw [if_pos g3] at hn
          rw [hn] at q
          exact iteT q
        · rw [decide_eq_false g3]
          rw [if_neg g3] at hn
          refine iteF ?_
          refine ⟨_, rfl, _, rfl, _, _, rfl, rfl, .inr ⟨by omega, by omega⟩, _, rfl, _, _, rfl, rfl, ?_⟩
          refine ⟨rfl, some (.int (c : Int)), some (.int (dv c : Int)), n * b + dv c, ?_, hn⟩
          rw [Int.natCast_add, Int.natCast_mul]
          rfl
      · rintro σ H' ⟨rfl, v4, v5, n, rfl, hn⟩
        rw [nats_len, List.drop_length, numGo] at hn
        rw [hn] at q
        refine ⟨_, rfl, _, _, rfl, rfl, _, rfl, ?_⟩
        rw [show decide ((n : Int) ≤ 255) = decide (n ≤ 255) from dec_le n 255]
        by_cases g3 : n ≤ 255
        · rw [decide_eq_true g3]
          have q : Q (optV (if n ≤ 255 then some n else none)) H' := q
          rw [if_pos g3] at q
          exact iteT ⟨_, rfl, q⟩
        · rw [decide_eq_false g3]
          have q : Q (optV (if n ≤ 255 then some n else none)) H' := q
          rw [if_neg g3] at q
          exact iteF q
    · rw [decide_eq_false g2]
      rw [if_neg (fun z => g2 z.2)] at q
      exact iteT q
  · rw [decide_eq_false (show ¬ (1 : Int) ≤ ((t.length : Nat) : Int) by omega)]
    rw [if_neg (fun z => g1 z.1)] at q
    exact iteF ⟨_, rfl, iteT q⟩
theorem named_val (t : Text) : valV ([([Sum.inl 97, Sum.inl 109, Sum.inl 112], .int 38), ([Sum.inl 108, Sum.inl 116], .int 60), ([Sum.inl 103, Sum.inl 116], .int 62), ([Sum.inl 113, Sum.inl 117, Sum.inl 111, Sum.inl 116], .int 34), ([Sum.inl 97, Sum.inl 112, Sum.inl 111, Sum.inl 115], .int 39)] : List (List Key × V)) (keys t)
    = if t = [97, 109, 112] then some (.int 38) else if t = [108, 116] then some (.int 60) else if t = [103, 116] then some (.int 62) else if t = [113, 117, 111, 116] then some (.int 34) else if t = [97, 112, 111, 115] then some (.int 39) else none := by
  have one : ∀ (l : Text) (v : V) (r : List (List Key × V)), valV ((keys l, v) :: r) (keys t) = if t = l then some v else valV r (keys t) := by
    intro l v r
    by_cases h : t = l
    · rw [if_pos h, valV_pos (by rw [h])]
    · rw [if_neg h, valV_neg (fun z => h (keys_inj z).symm)]
  show valV [(keys [97, 109, 112], .int 38), (keys [108, 116], .int 60), (keys [103, 116], .int 62), (keys [113, 117, 111, 116], .int 34), (keys [97, 112, 111, 115], .int 39)] (keys t) = _
  rw [one, one, one, one, one]
  rfl
theorem D_reference_byte (T : Tx P w K mg B) : DefOk P w K mg base "reference_byte" B.f_reference_byte 4 ["body"] (fun vs H Q _ => ∃ (d : Addr) (t : Text), vs = [.ref d] ∧ H d = some (.lst (nats t)) ∧ ∀ H', Same H H' → Q (optV (Vaesca.byteOf t)) H') := by
  have D_number_byte := D_number_byte (base := base) T
  refine mkDef T.f_reference_byte sc_reference_byte ?_ fun cdv A0 outer s0 H vs Q E hr h => ?_
  · rintro vs H Q E ⟨d, t, rfl, _⟩
    rfl
  obtain ⟨d, t, rfl, hd, k⟩ := h
  refine ⟨_, (pss_cons (ps_if (pt_cmp (pc_kin (hu_of hr) (pe_callTy call_tuple_of rfl T.n_tuple boot_tuple (pa_cons (pv 0) pa_nil)) (pga T.a_NAMED_BYTES))) (pss_one (ps_ret (pe_kget (hu_of hr) (pga T.a_NAMED_BYTES) (pe_callTy call_tuple_of rfl T.n_tuple boot_tuple (pa_cons (pv 0) pa_nil)) (fun _ _ => rfl)))) pss_nil) (pss_cons (ps_if (pt_cmpR (op_eqD hr.units) (pe_slice sl_list (pv 0) po_none (po_some pe_int)) (pe_lst (pa_cons pe_int (pa_cons pe_int pa_nil))) (nomark _)) (pss_one (ps_ret (pcall D_number_byte (hr.mono (by decide)) rfl (pa_cons (pe_slice sl_list (pv 0) (po_some pe_int) po_none) (pa_cons pe_int (pa_cons pe_int pa_nil)))))) pss_nil) (pss_cons (ps_if (pt_cmpR (op_eqD hr.units) (pe_slice sl_list (pv 0) po_none (po_some pe_int)) (pe_lst (pa_cons pe_int pa_nil)) (nomark _)) (pss_one (ps_ret (pcall D_number_byte (hr.mono (by decide)) rfl (pa_cons (pe_slice sl_list (pv 0) (po_some pe_int) po_none) (pa_cons pe_int (pa_cons pe_int pa_nil)))))) pss_nil) (pss_one (ps_ret pe_non))))), ?_⟩
  rw [← refB_eq] at k
  unfold refB at k
  dsimp only [tSeq]
  refine ⟨_, rfl, _, _, rfl, .inl ⟨SqL.of hd, fun l hl => ?_⟩⟩
  have S1 : Same H (upd H l (.tup (nats t))) := Same.upd hl
  have hn := named_val t
  refine ⟨B.d_NAMED_BYTES, _, rfl, .inr ⟨_, keys t, l, T.d_NAMED_BYTES, rfl, by rw [keys_kV]; exact upd_same, rfl⟩, _, rfl, ?_⟩
  rw [hn]
  have there : ∀ {n : Int}, valV ([([Sum.inl 97, Sum.inl 109, Sum.inl 112], .int 38), ([Sum.inl 108, Sum.inl 116], .int 60), ([Sum.inl 103, Sum.inl 116], .int 62), ([Sum.inl 113, Sum.inl 117, Sum.inl 111, Sum.inl 116], .int 34), ([Sum.inl 97, Sum.inl 112, Sum.inl 111, Sum.inl 115], .int 39)] : List (List Key × V)) (keys t) = some (.int n) →
      (∀ H', Same H H' → Q (.int n) H') → tRet (tKGet P w K (tC (.ref B.d_NAMED_BYTES)) (tCB (fun xs H Q => ∃ p ys, xs = [V.ref p] ∧ ((SqL K H p ys ∧ ∀ l, H l = none → Q (.ref l) (upd H l (.tup ys))) ∨ (SqT K H p ys ∧ Q (.ref p) H))) (tCons (tVar 0) tNil)))
        { nx := fun _ H' => Q .non H', rt := Q } (L2.start ["body"] [.ref d]) (upd H l (.tup (nats t))) := by
    intro n hv kk
    refine ⟨_, rfl, _, _, rfl, .inl ⟨SqL.of (S1 _ _ hd), fun l2 hl2 => ?_⟩⟩
    refine ⟨B.d_NAMED_BYTES, _, rfl, .inr ⟨_, keys t, l2, T.d_NAMED_BYTES, rfl, by rw [keys_kV]; exact upd_same, hv.symm⟩, ?_⟩
    exact kk _ (S1.trans (Same.upd hl2))
  by_cases c1 : t = [97, 109, 112]
  · rw [if_pos c1] at k hn ⊢
    exact iteT (there hn k)
  rw [if_neg c1] at k hn ⊢
  by_cases c2 : t = [108, 116]
  · rw [if_pos c2] at k hn ⊢
    exact iteT (there hn k)
  rw [if_neg c2] at k hn ⊢
  by_cases c3 : t = [103, 116]
  · rw [if_pos c3] at k hn ⊢
    exact iteT (there hn k)
  rw [if_neg c3] at k hn ⊢
  by_cases c4 : t = [113, 117, 111, 116]
  · rw [if_pos c4] at k hn ⊢
    exact iteT (there hn k)
  rw [if_neg c4] at k hn ⊢
  by_cases c5 : t = [97, 112, 111, 115]
  · rw [if_pos c5] at k hn ⊢
    exact iteT (there hn k)
  rw [if_neg c5] at k hn ⊢
  refine iteF ?_
  generalize upd H l (.tup (nats t)) = H1 at S1
  have h1 := S1 _ _ hd
  -- body[:2] == [35, 120]
  refine ⟨_, rfl, 2, rfl, d, _, rfl, SqL.of h1, fun q hq => ?_⟩
  rw [show (some (2 : Int)) = some ((2 : Nat) : Int) from rfl, cut_hi, nats_take]
  refine ⟨(by show 2 ≤ sizeLine; decide), fun r hr2 => ?_⟩
  refine ⟨.list (dN (t.take 2)), .list (dN [35, 120]), .lst (SqL.of (Same.upd hr2 _ _ upd_same)) (dN_all _), .lst (SqL.of upd_same) (dN_all [35, 120]), dN_shL _, dN_shL _, _, rfl, ?_⟩
  rw [eqvL]
  have S2 : Same H (upd (upd H1 q (.lst (nats (t.take 2)))) r (.lst [.int 35, .int 120])) := S1.trans ((Same.upd hq).trans (Same.upd hr2))
  generalize upd (upd H1 q (.lst (nats (t.take 2)))) r (.lst [.int 35, .int 120]) = H2 at S2
  have h2 := S2 _ _ hd
  refine ite2 (fun e => ?_) fun e => ?_
  · rw [if_pos (eq_of_beq e)] at k
    refine ⟨_, rfl, 2, rfl, d, _, rfl, SqL.of h2, fun q2 hq2 => ?_⟩
    rw [show (some (2 : Int)) = some ((2 : Nat) : Int) from rfl, cut_lo (α := Nat), nats_drop]
    exact ⟨q2, _, 16, 2, rfl, SqL.of upd_same, Nat.le_refl _, k _ (S2.trans (Same.upd hq2))⟩
  rw [if_neg (fun z => e (by rw [z]; rfl))] at k
  refine ⟨_, rfl, 1, rfl, d, _, rfl, SqL.of h2, fun q hq => ?_⟩
  rw [show (some (1 : Int)) = some ((1 : Nat) : Int) from rfl, cut_hi, nats_take]
  refine ⟨(by show 1 ≤ sizeLine; decide), fun r hr2 => ?_⟩
  refine ⟨.list (dN (t.take 1)), .list (dN [35]), .lst (SqL.of (Same.upd hr2 _ _ upd_same)) (dN_all _), .lst (SqL.of upd_same) (dN_all [35]), dN_shL _, dN_shL _, _, rfl, ?_⟩
  rw [eqvL]
  have S3 : Same H (upd (upd H2 q (.lst (nats (t.take 1)))) r (.lst [.int 35])) := S2.trans ((Same.upd hq).trans (Same.upd hr2))
  generalize upd (upd H2 q (.lst (nats (t.take 1)))) r (.lst [.int 35]) = H3 at S3
  have h3 := S3 _ _ hd
  refine ite2 (fun e2 => ?_) fun e2 => ?_
  · rw [if_pos (eq_of_beq e2)] at k
    refine ⟨_, rfl, 1, rfl, d, _, rfl, SqL.of h3, fun q2 hq2 => ?_⟩
    rw [show (some (1 : Int)) = some ((1 : Nat) : Int) from rfl, cut_lo (α := Nat), nats_drop]
    exact ⟨q2, _, 10, 3, rfl, SqL.of upd_same, by decide, k _ (S3.trans (Same.upd hq2))⟩
  rw [if_neg (fun z => e2 (by rw [z]; rfl))] at k
  exact k _ S3
end
end Mr
end
section
set_option Elab.async false
set_option linter.all false
set_option maxRecDepth 100000
set_option maxHeartbeats 2000000
namespace Mr
open PySem PySem.Spec PyProof.Rows L2 Hr
open Vaesca (Text Token Reader Mode Home)
def endRefM (h : Home) (m : Reader) : Reader := match Vaesca.byteOf m.body with
  | some b => { m with run := m.run ++ [b], body := [], mode := h.mode }
  | none => m.fail 4
section
variable {P : Program} {w : World} {K : PySem.W.Frag} {mg : Str → Option Value} {base : Heap} {B : Adr}
theorem D_end_reference (T : Tx P w K mg B) : DefOk P w K mg base "end_reference" B.f_end_reference 5 ["reader"] (spM (CB B) 0 fun as m m' => as = [] ∧ ∃ h, m.mode = .ref h ∧ Sm m ∧ m' = endRefM h m) := by
  have D_reference_byte := D_reference_byte (base := base) T
  have D_Reader_fail := D_Reader_fail (base := base) T
  refine mkDef T.f_end_reference sc_end_reference spM_len fun cdv A0 outer s0 H vs Q E hr h => ?_
  obtain ⟨p, as, ρ, m, m', rfl, _, a, ⟨rfl, h, hm, S, rfl⟩, fin⟩ := h
  refine ⟨_, (pss_cons (ps_set (i := 1) sc_end_reference.nd rfl (Or.inl rfl) (pcall D_reference_byte (hr.mono (by decide)) rfl (pa_cons (pe_fld (pv 0) rfl) pa_nil))) (pss_one (ps_if (pt_cmp (pc_isN (pv 1))) (pss_one (ps_expr (pmeth (pv 0) T.cl_Reader D_Reader_fail (hr.mono (by decide)) (pa_cons (pgc T.c_NO_REFERENCE) pa_nil)))) (pss_cons (ps_expr (pe_bm PySem.F.plainAttrs_list PySem.F.slot_list_append PySem.F.type_list_append mt_append (pe_fld (pv 0) rfl) (pa_cons (pv 1) pa_nil))) (pss_cons (ps_fld (pv 0) (pe_lst pa_nil) rfl) (pss_one (ps_fld (pv 0) (pe_kget (hu_of hr) (pga T.a_MODES_BEHIND_REFERENCE) (pe_fld (pv 0) rfl) (fun _ _ => rfl)) rfl))))))), ?_⟩
  obtain ⟨o, ⟨ρ1, A1, R1, F1⟩, ho⟩ := id a
  dsimp only [tSeq]
  show tCall _ _ _ _ _ _ _
  dsimp only [tCall, tCons]
  refine R1.g_bod T.t rfl ?_
  refine ⟨A1.bod, m.body, rfl, R1.bod.1, fun H1 S1 => ?_⟩
  have a1 : At (CB B) ρ H p m o true true H1 := At.same ⟨ρ1, A1, R1, F1⟩ S1
  unfold endRefM at fin
  refine ⟨_, rfl, _, rfl, ?_⟩
  cases e : Vaesca.byteOf m.body with
  | none =>
    rw [e] at fin
    refine iteT ?_
    exact Hr.Wh.failC (a1.wh ho) 4 fin
  | some b =>
    rw [e] at fin
    refine iteF ?_
    dsimp only [tSeq]
    refine a1.s_runApp T.t b ?_ ?_ (by have := S.run; omega) fun H2 a2 => ?_
    · rfl
    · exact fun Q q => ⟨_, rfl, q⟩
    dsimp only [tSeq]
    refine a2.s_bod T.t [] ?_ ?_ fun H3 a3 => ?_
    · rfl
    · exact fun Q q => ⟨Nat.zero_le _, q⟩
    obtain ⟨ρ3, A3, R3, F3⟩ := id a3
    try dsimp only [tSeq]
    refine a3.s_mode T.t h.mode ?_ ?_ fun H4 a4 => fin H4 (a4.whN ?_ ?_)
    · rfl
    · intro Q q
      dsimp only [tKGet, tC]
      refine R3.g_mode T.t rfl ⟨B.d_MODES_BEHIND_REFERENCE, _, rfl, .inl ⟨_, Sum.inl _, T.d_MODES_BEHIND_REFERENCE, rfl, ?_⟩, q⟩
      show _ = valV _ (Sum.inl ((m.mode.code : Nat) : Int))
      rw [hm]
      cases h <;> rfl
    · cases h <;> (intro z; cases z)
    · cases h <;> (intro z; cases z)
theorem D_read_in_reference (T : Tx P w K mg B) : DefOk P w K mg base "read_in_reference" B.f_read_in_reference 6 ["reader", "sign"] (spM (CB B) 1 fun as m m' => ∃ (c : Nat) (h : Home), as = [.int (c : Int)] ∧ m.mode = .ref h ∧ Sm m ∧ m' = Mi.inRef h m c) := by
  have D_end_reference := D_end_reference (base := base) T
  have D_is_body_sign := D_is_body_sign (base := base) T
  have D_Reader_fail := D_Reader_fail (base := base) T
  refine mkDef T.f_read_in_reference sc_read_in_reference spM_len fun cdv A0 outer s0 H vs Q E hr h => ?_
  obtain ⟨p, as, ρ, m, m', rfl, _, a, ⟨c, h, rfl, hm, S, rfl⟩, fin⟩ := h
  refine ⟨_, (pss_one (ps_if (pt_cmpR op_eq (pv 1) (pgc T.c_SEMICOLON) (nomark _)) (pss_one (ps_expr (pcall D_end_reference (hr.mono (by decide)) rfl (pa_cons (pv 0) pa_nil)))) (pss_one (ps_if (PW.pt (pw_and (pt_val (pcall D_is_body_sign (hr.mono (by decide)) rfl (pa_cons (pv 1) pa_nil))) (pw_and1 (pt_cmpR op_lt (pe_callB call_len rfl T.n_len PySem.boot_len (pa_cons (pe_fld (pv 0) rfl) pa_nil)) (pgc T.c_LONGEST_BODY) (nomark _))))) (pss_one (ps_expr (pe_bm PySem.F.plainAttrs_list PySem.F.slot_list_append PySem.F.type_list_append mt_append (pe_fld (pv 0) rfl) (pa_cons (pv 1) pa_nil)))) (pss_one (ps_expr (pmeth (pv 0) T.cl_Reader D_Reader_fail (hr.mono (by decide)) (pa_cons (pgc T.c_NO_REFERENCE) pa_nil)))))))), ?_⟩
  unfold Mi.inRef at fin
  refine if_eq (a := 59) (c := c) (fun e => ?_) (fun e => ?_)
  · rw [if_pos e] at fin
    exact a.call (as := []) rfl (fun Q q => q) ⟨rfl, h, hm, S, rfl⟩ rfl fin
  rw [if_neg e] at fin
  obtain ⟨o, ⟨ρ1, A1, R1, F1⟩, ho⟩ := id a
  refine ⟨_, rfl, c, rfl, _, rfl, ?_⟩
  refine ite2 (fun e2 => ?_) fun e2 => ?_
  · dsimp only [tTest, tOp, tCB, tCons]
    refine R1.g_bod T.t rfl ⟨_, _, rfl, .inl ⟨_, SqL.of R1.bod.1, rfl⟩, _, _, rfl, rfl, _, rfl, ?_⟩
    rw [nats_len]
    by_cases e3 : m.body.length < 4
    · rw [decide_eq_true (show ((m.body.length : Nat) : Int) < 4 by omega)]
      rw [if_pos ⟨e2, e3⟩] at fin
      refine iteT ?_
      refine a.s_bodApp T.t c ?_ ?_ S.bod fin
      · rfl
      · exact fun Q q => ⟨_, rfl, q⟩
    · rw [decide_eq_false (show ¬ ((m.body.length : Nat) : Int) < 4 by omega)]
      rw [if_neg (fun z => e3 z.2)] at fin
      exact iteF (a.failC 4 fin)
  · rw [if_neg (fun z => e2 z.1)] at fin
    exact iteF (a.failC 4 fin)
theorem code22 (mo : Mode) (h : mo.code = 22) : mo = .raw := by
  cases mo with
  | ref x => cases x <;> exact absurd h (by decide)
  | comment d =>
    exfalso
    simp only [Mode.code] at h
    split at h
    · cases h
    · split at h <;> cases h
  | raw => rfl
  | _ => exact absurd h (by decide)
def spotL : List (Key × V) := [(Sum.inl 0, .int 0), (Sum.inl 11, .int 4), (Sum.inl 12, .int 1), (Sum.inl 13, .int 2), (Sum.inl 14, .int 3), (Sum.inl 22, .int 5)]
theorem spot_val (m : Reader) (h : m.mode = .raw → m.tag = Vaesca.CALC) : valV spotL (Sum.inl ((m.mode.code : Nat) : Int)) = (Vaesca.spotOf m).map fun s => .int (s : Int) := by
  unfold Vaesca.spotOf
  cases q : m.mode with
  | ref x => cases x <;> rfl
  | comment d =>
    simp only [Mode.code]
    split
    · rfl
    · split <;> rfl
  | raw => rw [h q]; rfl
  | _ => rfl
theorem D_takes_marks (T : Tx P w K mg B) : DefOk P w K mg base "takes_marks" B.f_takes_marks 1 ["reader"] (fun vs H Q _ => ∃ p ρ m, vs = [.ref p] ∧ Wh (CB B) ρ H p m H ∧ ∀ H', Same H H' → Q (.bl (Vaesca.spotOf m).isSome) H') := by
  refine mkDef T.f_takes_marks sc_takes_marks ?_ fun cdv A0 outer s0 H vs Q E hr h => ?_
  · rintro vs H Q E ⟨p, ρ, m, rfl, _⟩
    rfl
  obtain ⟨p, ρ, m, rfl, a, k⟩ := h
  refine ⟨_, (pss_cons (ps_if (pt_cmpR op_eq (pe_fld (pv 0) rfl) (pgc T.c_RAW_TEXT) (nomark _)) (pss_one (ps_ret (pe_cmpR (op_eqD hr.units) (pe_callTy call_tuple_of rfl T.n_tuple boot_tuple (pa_cons (pe_fld (pv 0) rfl) pa_nil)) (pga T.a_CALC) (nomark _)))) pss_nil) (pss_one (ps_ret (pe_cmp (pc_kin (hu_of hr) (pe_fld (pv 0) rfl) (pga T.a_SPOTS)))))), ?_⟩
  obtain ⟨o, ⟨ρ1, A1, R1, F1⟩, ho⟩ := id a
  dsimp only [tSeq, tIfS, tTest, tOp]
  refine R1.g_mode T.t rfl ⟨rfl, _, rfl, ?_⟩
  rw [show decide (V.int ((m.mode.code : Nat) : Int) = V.int 22) = (m.mode.code == 22) from dec_eq 22 _]
  refine ite2 (fun e => ?_) fun e => ?_
  · have e' := code22 _ (eq_of_beq e)
    dsimp only [tRet, tOp, tCB, tCons]
    refine R1.g_tag T.t rfl ⟨_, _, rfl, .inl ⟨SqL.of R1.tag.1, fun l hl => ?_⟩⟩
    refine ⟨.tuple (dN m.tag), .tuple (dN Vaesca.CALC), .tup (.inl (.inl upd_same)) (dN_all _), .tup (T.t_CALC _) (dN_all Vaesca.CALC), dN_shT _, dN_shT _, ?_⟩
    rw [eqvT]
    have k1 := k _ (Same.upd (ob := .tup (nats m.tag)) hl)
    have e3 : (Vaesca.spotOf m).isSome = (m.tag == Vaesca.CALC) := by
      unfold Vaesca.spotOf
      rw [e']
      cases m.tag == Vaesca.CALC <;> rfl
    rw [e3] at k1
    exact k1
  · dsimp only [tNext, tRet, tKIn, tC]
    refine R1.g_mode T.t rfl ⟨B.d_SPOTS, _, rfl, .inl ⟨_, Sum.inl _, T.d_SPOTS, rfl, rfl⟩, ?_⟩
    have k1 := k H (Same.refl H)
    have e3 := spot_val m fun z => (e (by rw [z]; rfl)).elim
    rw [← Option.isSome_map (f := fun s : Nat => V.int (s : Int)), ← e3] at k1
    exact k1
theorem D_read_end (T : Tx P w K mg B) : DefOk P w K mg base "read_end" B.f_read_end 6 ["reader"] (spUnit (CB B) Sm Mi.finish) := by
  have D_end_run_of_text := D_end_run_of_text (base := base) T
  have D_Reader_fail := D_Reader_fail (base := base) T
  refine mkDef T.f_read_end sc_read_end spM_len fun cdv A0 outer s0 H vs Q E hr h => ?_
  obtain ⟨p, as, ρ, m, m', rfl, _, a, ⟨rfl, S, rfl⟩, fin⟩ := h
  refine ⟨_, (pss_one (ps_if (pt_cmpR op_eq (pe_fld (pv 0) rfl) (pgc T.c_TEXT) (nomark _)) (pss_cons (ps_expr (pcall D_end_run_of_text (hr.mono (by decide)) rfl (pa_cons (pv 0) pa_nil))) (pss_one (ps_fld (pv 0) (pgc T.c_ENDED) rfl))) (pss_one (ps_expr (pmeth (pv 0) T.cl_Reader D_Reader_fail (hr.mono (by decide)) (pa_cons (pgc T.c_EARLY_END) pa_nil)))))), ?_⟩
  unfold Mi.finish at fin
  obtain ⟨o, ⟨ρ1, A1, R1, F1⟩, ho⟩ := id a
  dsimp only [tIfS, tTest, tOp]
  refine R1.g_mode T.t rfl ⟨rfl, _, rfl, ?_⟩
  rw [show decide (V.int ((m.mode.code : Nat) : Int) = V.int 0) = (m.mode.code == 0) from dec_eq 0 _]
  have c0 : m.mode.code = 0 → m.mode = .text := by
    cases m.mode with
    | ref x => cases x <;> exact fun h => absurd h (by decide)
    | comment d =>
      intro h
      exfalso
      simp only [Mode.code] at h
      split at h
      · cases h
      · split at h <;> cases h
    | text => exact fun _ => rfl
    | _ => exact fun h => absurd h (by decide)
  refine ite2 (fun e => ?_) fun e => ?_
  · rw [if_pos (c0 (eq_of_beq e))] at fin
    dsimp only [tSeq]
    refine a.unit (by have := S.tok; omega) fun H1 a1 => ?_
    exact a1.goC T.t .ended fin
  · rw [if_neg (fun z => e (by rw [z]; rfl))] at fin
    exact a.failC 7 fin
end
end Mr
end
section
set_option Elab.async false
set_option linter.all false
set_option maxRecDepth 100000
set_option maxHeartbeats 2000000
namespace Mr
open PySem PySem.Spec PyProof.Rows L2 Hr
open Vaesca (Text Token Reader Mode Home)
structure Pre (m : Reader) : Prop where
  sm : Sm m
  ended : m.mode ≠ .ended
  fault : m.mode ≠ .fault
  com : ∀ d, m.mode = .comment d → d ≤ 2
  tw : m.mode = .eq ∨ m.mode = .double ∨ m.mode = .single ∨ m.mode = .bare → Vaesca.isTwice m = false
  raw : m.mode = .rawEnd → m.body.length + 2 ≤ m.count
theorem callV_of {X : Cx} {x : Str} {f : Addr} {k : Nat} {ps : List Str} {sp : Sp} {σ : L2.St} {H : Hp} {Q : VK} {t : TA} {i : Nat} (D : DefOk X.prog X.w X.K X.mg X.base x f k ps sp) (hr : Room k X.A) (h2 : σ[i]? = some (some (.ref f))) (h : t σ H fun vs H2 => sp vs H2 Q E0) :
    tCallV X CX0 E0 (tVar i) t σ H Q := by
  obtain ⟨_, kp, fd, b, F⟩ := D
  exact ⟨_, h2, f, fd, k, ps, sp, rfl, kp, F, hr, b, h⟩
section
variable {X : Cx} {B : Adr} {H H0 : Hp} {ρ0 : Lab} {p : Addr} {m : Reader} {D : Ends} {c : Nat} {v2 : Option V}
theorem go_step {x : Str} {f : Addr} {k : Nat} {pre : Reader → Nat → Prop} {g : Reader → Nat → Reader} (a : Wh (CB B) ρ0 H0 p m H) (d : DefOk X.prog X.w X.K X.mg X.base x f k ["reader", "sign"] (spStep (CB B) pre g)) (hr : Room k X.A) (hp : pre m c)
    (fin : ∀ σ' H', Wh (CB B) ρ0 H0 p (g m c) H' → D.nx σ' H') : tDrop (tCallV X CX0 E0 (tVar 2) (tCons (tVar 0) (tCons (tVar 1) tNil))) D [some (.ref p), some (.int (c : Int)), some (.ref f)] H := by
  obtain ⟨o, a, ho⟩ := a
  obtain ⟨ρ, a, F⟩ := a.here
  exact callV_of d hr rfl ⟨_, rfl, _, rfl, p, [.int (c : Int)], ρ, m, _, rfl, rfl, ⟨o, a, ho⟩, ⟨c, rfl, hp, rfl⟩, fun H' w => fin _ H' (w.trans F)⟩
theorem dispatch (T : Tx X.prog X.w X.K X.mg B) (hr : Room 6 X.A) (a : Wh (CB B) ρ0 H0 p m H) (pr : Pre m) (fin : ∀ σ' H', Wh (CB B) ρ0 H0 p (Mi.step m c) H' → D.nx σ' H') :
    tSeq (tAsg (tKGet X.prog X.w X.K (tC (.ref B.d_STEPS)) (tFld X.K (tVar 0) "mode")) (gName 2)) (tDrop (tCallV X CX0 E0 (tVar 2) (tCons (tVar 0) (tCons (tVar 1) tNil)))) D [some (.ref p), some (.int (c : Int)), v2] H := by
  obtain ⟨o, ⟨ρ1, A1, R1, F1⟩, ho⟩ := id a
  have key : ∀ f : Addr, some (V.ref f) = valV ([(Sum.inl 0, .ref B.f_read_in_text), (Sum.inl 1, .ref B.f_read_in_reference), (Sum.inl 2, .ref B.f_read_in_reference), (Sum.inl 3, .ref B.f_read_in_reference), (Sum.inl 4, .ref B.f_read_in_reference), (Sum.inl 5, .ref B.f_read_behind_less), (Sum.inl 6, .ref B.f_read_in_open_tag_name), (Sum.inl 7, .ref B.f_read_behind_less_slash), (Sum.inl 8, .ref B.f_read_in_close_tag_name), (Sum.inl 9, .ref B.f_read_in_gap), (Sum.inl 10, .ref B.f_read_in_attribute_name), (Sum.inl 11, .ref B.f_read_behind_equals), (Sum.inl 12, .ref B.f_read_in_quotes), (Sum.inl 13, .ref B.f_read_in_apostrophes), (Sum.inl 14, .ref B.f_read_in_bare_value), (Sum.inl 15, .ref B.f_read_behind_part_of_tag), (Sum.inl 16, .ref B.f_read_behind_slash), (Sum.inl 17, .ref B.f_read_dash_ahead_of_comment), (Sum.inl 18, .ref B.f_read_dash_ahead_of_comment), (Sum.inl 19, .ref B.f_read_in_comment), (Sum.inl 20, .ref B.f_read_behind_one_dash), (Sum.inl 21, .ref B.f_read_behind_two_dashes), (Sum.inl 22, .ref B.f_read_in_raw_text), (Sum.inl 23, .ref B.f_read_in_raw_text_behind_less), (Sum.inl 24, .ref B.f_read_in_raw_close_tag)] : List (Key × V)) (Sum.inl ((m.mode.code : Nat) : Int)) → tDrop (tCallV X CX0 E0 (tVar 2) (tCons (tVar 0) (tCons (tVar 1) tNil))) D [some (.ref p), some (.int (c : Int)), some (.ref f)] H →
      tSeq (tAsg (tKGet X.prog X.w X.K (tC (.ref B.d_STEPS)) (tFld X.K (tVar 0) "mode")) (gName 2)) (tDrop (tCallV X CX0 E0 (tVar 2) (tCons (tVar 0) (tCons (tVar 1) tNil)))) D [some (.ref p), some (.int (c : Int)), v2] H := by
    intro f hf h
    dsimp only [tSeq, tAsg, tKGet, tC]
    exact R1.g_mode T.t rfl ⟨B.d_STEPS, .ref f, rfl, .inl ⟨_, Sum.inl _, T.d_STEPS, rfl, hf⟩, h⟩
  have fin' : ∀ σ' H', Wh (CB B) ρ0 H0 p (Mi.stepBy m.mode m c) H' → D.nx σ' H' := fin
  have S := pr.sm
  have hr1 : ∀ {k : Nat}, k ≤ 6 → Room k X.A := fun h => hr.mono h
  cases q : m.mode with
  | text => rw [q] at key fin'; exact key _ rfl (go_step a (D_read_in_text T) hr S fin')
  | ref h =>
    rw [q] at key fin'
    refine key B.f_read_in_reference (by cases h <;> rfl) ?_
    obtain ⟨ρ, a', F⟩ := At.here ⟨ρ1, A1, R1, F1⟩
    exact callV_of (D_read_in_reference T) hr rfl ⟨_, rfl, _, rfl, p, [.int (c : Int)], ρ, m, _, rfl, rfl, ⟨o, a', ho⟩, ⟨c, h, rfl, q, S, rfl⟩, fun H' w => fin' _ H' (w.trans F)⟩
  | lt => rw [q] at key fin'; exact key _ rfl (go_step a (D_read_behind_less T) (hr1 (by decide)) trivial fin')
  | openName => rw [q] at key fin'; exact key _ rfl (go_step a (D_read_in_open_tag_name T) (hr1 (by decide)) ⟨S, q⟩ fin')
  | ltSlash => rw [q] at key fin'; exact key _ rfl (go_step a (D_read_behind_less_slash T) (hr1 (by decide)) trivial fin')
  | closeName => rw [q] at key fin'; exact key _ rfl (go_step a (D_read_in_close_tag_name T) (hr1 (by decide)) ⟨S, q⟩ fin')
  | gap => rw [q] at key fin'; exact key _ rfl (go_step a (D_read_in_gap T) (hr1 (by decide)) S fin')
  | attrName => rw [q] at key fin'; exact key _ rfl (go_step a (D_read_in_attribute_name T) (hr1 (by decide)) S fin')
  | eq => rw [q] at key fin'; exact key _ rfl (go_step a (D_read_behind_equals T) (hr1 (by decide)) ⟨S, pr.tw (.inl q)⟩ fin')
  | double => rw [q] at key fin'; exact key _ rfl (go_step a (D_read_in_quotes T) (hr1 (by decide)) ⟨S, pr.tw (.inr (.inl q))⟩ fin')
  | single => rw [q] at key fin'; exact key _ rfl (go_step a (D_read_in_apostrophes T) (hr1 (by decide)) ⟨S, pr.tw (.inr (.inr (.inl q)))⟩ fin')
  | bare => rw [q] at key fin'; exact key _ rfl (go_step a (D_read_in_bare_value T) (hr1 (by decide)) ⟨S, pr.tw (.inr (.inr (.inr q)))⟩ fin')
  | behind => rw [q] at key fin'; exact key _ rfl (go_step a (D_read_behind_part_of_tag T) (hr1 (by decide)) (by have := S.tok; omega) fin')
  | slash => rw [q] at key fin'; exact key _ rfl (go_step a (D_read_behind_slash T) (hr1 (by decide)) S fin')
  | bang => rw [q] at key fin'; exact key _ rfl (go_step a (D_read_dash_ahead_of_comment T) (hr1 (by decide)) trivial fin')
  | bangDash => rw [q] at key fin'; exact key _ rfl (go_step a (D_read_dash_ahead_of_comment T) (hr1 (by decide)) trivial fin')
  | comment d =>
    have hd := pr.com d q
    rw [q] at key fin'
    match d, hd, key, fin' with
    | 0, _, key, fin' => exact key _ rfl (go_step a (D_read_in_comment T) (hr1 (by decide)) S fin')
    | 1, _, key, fin' => exact key _ rfl (go_step a (D_read_behind_one_dash T) (hr1 (by decide)) S fin')
    | 2, _, key, fin' => exact key _ rfl (go_step a (D_read_behind_two_dashes T) (hr1 (by decide)) S fin')
  | raw => rw [q] at key fin'; exact key _ rfl (go_step a (D_read_in_raw_text T) (hr1 (by decide)) S fin')
  | rawLt => rw [q] at key fin'; exact key _ rfl (go_step a (D_read_in_raw_text_behind_less T) (hr1 (by decide)) S fin')
  | rawEnd => rw [q] at key fin'; exact key _ rfl (go_step a (D_read_in_raw_close_tag T) (hr1 (by decide)) ⟨S, pr.raw q⟩ fin')
  | ended => exact (pr.ended q).elim
  | fault => exact (pr.fault q).elim
end
section
variable {P : Program} {w : World} {K : PySem.W.Frag} {mg : Str → Option Value} {base : Heap} {B : Adr}
theorem D_read_sign (T : Tx P w K mg B) : DefOk P w K mg base "read_sign" B.f_read_sign 7 ["reader", "sign"] (spStep (CB B) (fun m _ => Pre m ∧ m.marks.length < sizeLine) Mi.sign) := by
  have D_is_mark := D_is_mark (base := base) T
  have D_takes_marks := D_takes_marks (base := base) T
  have D_Reader_fail := D_Reader_fail (base := base) T
  refine mkDef T.f_read_sign sc_read_sign spM_len fun cdv A0 outer s0 H vs Q E hr h => ?_
  obtain ⟨p, as, ρ, m, m', rfl, _, a, ⟨c, rfl, ⟨pr, hmar⟩, rfl⟩, fin⟩ := h
  refine ⟨_, (pss_cons (ps_if (pt_val (pcall D_is_mark (hr.mono (by decide)) rfl (pa_cons (pv 1) pa_nil))) (pss_cons (ps_if (pt_not (pt_val (pcall D_takes_marks (hr.mono (by decide)) rfl (pa_cons (pv 0) pa_nil)))) (pss_cons (ps_expr (pmeth (pv 0) T.cl_Reader D_Reader_fail (hr.mono (by decide)) (pa_cons (pgc T.c_WRONG_MARK) pa_nil))) (pss_one ps_retN)) pss_nil) (pss_one (ps_expr (pe_bm PySem.F.plainAttrs_list PySem.F.slot_list_append PySem.F.type_list_append mt_append (pe_fld (pv 0) rfl) (pa_cons (pe_tup (pa_cons (pv 1) (pa_cons (pe_kget (hu_of hr) (pga T.a_SPOTS) (pe_fld (pv 0) rfl) (fun _ _ => rfl)) pa_nil))) pa_nil))))) pss_nil) (pss_cons (ps_set (i := 2) sc_read_sign.nd rfl (Or.inl rfl) (pe_kget (hu_of hr) (pga T.a_STEPS) (pe_fld (pv 0) rfl) (fun _ _ => rfl))) (pss_one (ps_expr (pe_callV (pv 2) pass0 (pa_cons (pv 0) (pa_cons (pv 1) pa_nil))))))), ?_⟩
  unfold Mi.sign at fin
  dsimp only [tSeq]
  refine if_b (c := c) (fun e => ?_) (fun e => ?_)
  · rw [if_pos e] at fin
    obtain ⟨o, a0, ho⟩ := id a
    obtain ⟨ρ1, a1, F1⟩ := a0.here
    dsimp only [tSeq]
    refine ⟨_, rfl, p, ρ1, m, rfl, ⟨o, a1, ho⟩, fun H1 S1 => ⟨_, rfl, ?_⟩⟩
    have a2 : Wh (CB B) ρ H p m H1 := ⟨o, a0.same S1, ho⟩
    cases es : Vaesca.spotOf m with
    | none =>
      rw [es] at fin
      refine iteT ?_
      dsimp only [tSeq]
      exact a2.failC 5 fin
    | some s =>
      rw [es] at fin
      refine iteF ?_
      obtain ⟨o, ⟨ρ2, A2, R2, F2⟩, ho⟩ := id a2
      obtain ⟨lm, vs, hv, pv'⟩ := id R2.mar
      dsimp only [tNext, tDrop, tBM]
      refine R2.g_mar T.t rfl ⟨.inl ⟨rfl, _, SqL.of hv⟩, _, rfl, ?_⟩
      dsimp only [tKGet, tC, tCons]
      have hs : valV spotL (Sum.inl ((m.mode.code : Nat) : Int)) = some (.int (s : Int)) := by
        have z : m.mode = .raw → m.tag = Vaesca.CALC := by
          intro z
          unfold Vaesca.spotOf at es
          rw [z] at es
          by_cases y : (m.tag == Vaesca.CALC) = true
          · exact eq_of_beq y
          · simp only [y] at es; cases es
        rw [spot_val m z, es]; rfl
      refine R2.g_mode T.t rfl ⟨B.d_SPOTS, _, rfl, .inl ⟨_, Sum.inl _, T.d_SPOTS, rfl, hs.symm⟩, ?_⟩
      refine ⟨(by show 2 ≤ sizeLine; decide), fun t ht => ?_⟩
      have S3 : Same H1 (upd H1 t (.tup [.int (c : Int), .int (s : Int)])) := Same.upd ht
      obtain ⟨ρ3, T3, n3⟩ := Stay.same1 (ρ := ρ2) S3
      have R3 := R2.keep T3 fun _ _ => trivial
      refine ⟨_, _, _, rfl, rfl, S3 _ _ hv, by rw [Hr.Paired.len pv']; exact hmar, ?_⟩
      obtain ⟨R4, F4⟩ := R3.pushMar (t := (c, s)) (S3 _ _ hv) ⟨t, rfl, upd_same, n3 _ ht⟩
      have a4 : Wh (CB B) ρ H p { m with marks := m.marks ++ [(c, s)] } _ := ⟨o, ⟨_, A2, R4, (F2.trans (T3.sub fun _ _ => trivial)).trans F4⟩, ho⟩
      exact dispatch (X := (cxOf CX0 P w K mg base ["reader", "sign", "step"] "read_sign" (defScope s_read_sign) B.f_read_sign cdv A0 outer s0 H E).nox) T hr a4
        ⟨⟨pr.sm.run, pr.sm.tok, pr.sm.att, pr.sm.tag, pr.sm.nam, pr.sm.bod⟩, pr.ended, pr.fault, pr.com, pr.tw, pr.raw⟩ fun _ H' w => fin H' w
  · rw [if_neg e] at fin
    exact dispatch (X := (cxOf CX0 P w K mg base ["reader", "sign", "step"] "read_sign" (defScope s_read_sign) B.f_read_sign cdv A0 outer s0 H E).nox) T hr a pr fun _ H' w => fin H' w
end
end Mr
end
section
set_option Elab.async false
set_option linter.all false
set_option maxRecDepth 100000
set_option maxHeartbeats 2000000
namespace Mr
open PySem PySem.Spec PyProof.Rows L2 Hr
open Vaesca (Text Token Reader Mode Home)
def Good : Reader → Text → Prop
  | _, [] => True
  | m, c :: r => Pre m ∧ m.marks.length < sizeLine ∧ ((Mi.sign m c).mode ≠ .fault → Good { (Mi.sign m c) with count := (Mi.sign m c).count + 1 } r)
theorem code26 (mo : Mode) (h : mo.code = 26) : mo = .fault := by
  cases mo with
  | ref x => cases x <;> exact absurd h (by decide)
  | comment d =>
    exfalso
    simp only [Mode.code] at h
    split at h
    · cases h
    · split at h <;> cases h
  | fault => rfl
  | _ => exact absurd h (by decide)
theorem fault_code (mo : Mode) : decide (V.int ((mo.code : Nat) : Int) = V.int 26) = decide (mo = .fault) := by
  rw [show decide (V.int ((mo.code : Nat) : Int) = V.int 26) = (mo.code == 26) from dec_eq 26 _]
  by_cases h : mo = .fault
  · rw [decide_eq_true h, h]; rfl
  · rw [decide_eq_false h, beq_eq_false_iff_ne]
    exact fun z => h (code26 _ z)
theorem nats_at {t : Text} {i : Nat} {y : V} (h : (nats t)[i]? = some y) : ∃ c, t[i]? = some c ∧ y = .int (c : Int) ∧ t.drop i = c :: t.drop (i + 1) := by
  unfold nats at h
  rw [List.getElem?_map] at h
  cases e : t[i]? with
  | none => rw [e] at h; cases h
  | some c =>
    rw [e] at h
    obtain ⟨h1, h2⟩ := List.getElem?_eq_some_iff.mp e
    exact ⟨c, rfl, (Option.some.inj h).symm, by rw [List.drop_eq_getElem_cons h1, h2]⟩
def spSigns (C : Cl) : Sp := fun vs H Q _ => ∃ (p l : Addr) (ρ : Lab) (m : Reader) (t : Text), vs = [.ref p, .ref l] ∧ H l = some (.lst (nats t)) ∧ ρ l = 0 ∧ Wh C ρ H p m H ∧ Good m t ∧ ∀ H', Wh C ρ H p (Mi.signs m t) H' → Q .non H'
section
variable {P : Program} {w : World} {K : PySem.W.Frag} {mg : Str → Option Value} {base : Heap} {B : Adr}
theorem D_read_signs (T : Tx P w K mg B) : DefOk P w K mg base "read_signs" B.f_read_signs 8 ["reader", "signs"] (spSigns (CB B)) := by
  have D_read_sign := D_read_sign (base := base) T
  refine mkDef T.f_read_signs sc_read_signs ?_ fun cdv A0 outer s0 H vs Q E hr h => ?_
  · rintro vs H Q E ⟨p, l, ρ, m, t, rfl, _⟩
    rfl
  obtain ⟨p, l, ρ, m, t, rfl, hl, hρ, a, gd, fin⟩ := h
  refine ⟨_, (pss_one (ps_for PassesOwn.never rfl (pi_list (pv 1)) (pg_name (i := 2) sc_read_signs.nd rfl (Or.inl rfl)) (pss_cons (ps_expr (pcall D_read_sign (hr.mono (by decide)) rfl (pa_cons (pv 0) (pa_cons (pv 2) pa_nil)))) (pss_cons (ps_if (pt_cmpR op_eq (pe_fld (pv 0) rfl) (pgc T.c_FAULTY) (nomark _)) (pss_one ps_retN) pss_nil) (pss_one (ps_fld (pv 0) (pe_op op_add (pe_fld (pv 0) rfl) pe_int) rfl)))))), ?_⟩
  have stays : ∀ {m' : Reader} {H' : Hp}, Wh (CB B) ρ H p m' H' → SqL K H' l (nats t) := by
    rintro m' H' ⟨o, ⟨ρ', A', R', F'⟩, _⟩
    exact SqL.of (F' l _ hl hρ).1
  refine ⟨_, rfl, l, rfl, ⟨_, SqL.of hl⟩, for_list (K := K) (a := l) (xs := nats t) (fun i σ H' => ∃ (v : Option V) (mi : Reader), σ = [some (.ref p), some (.ref l), v] ∧ Wh (CB B) ρ H p mi H' ∧ Good mi (t.drop i) ∧ Mi.signs m t = Mi.signs mi (t.drop i))
    ⟨none, m, rfl, a, gd, rfl⟩ (fun i σ H' _ z => by obtain ⟨v, mi, _, w', _⟩ := z; exact stays w') ?_ ?_⟩
  · rintro i y σ H1 hi ⟨v, mi, rfl, a1, g1, e1⟩
    obtain ⟨c, hc, rfl, hd⟩ := nats_at hi
    rw [hd] at g1 e1
    obtain ⟨pr, hm, g2⟩ := g1
    rw [Mi.signs] at e1
    dsimp only [gName, tSeq]
    refine a1.step (c := c) ⟨pr, hm⟩ fun H2 a2 => ?_
    obtain ⟨o, ⟨ρ2, A2, R2, F2⟩, ho⟩ := id a2
    dsimp only [tSeq, tIfS, tTest, tOp]
    refine R2.g_mode T.t rfl ⟨rfl, _, rfl, ?_⟩
    rw [fault_code]
    refine ite2 (fun e => ?_) fun e => ?_
    · rw [if_pos (of_decide_eq_true e)] at e1
      rw [e1] at fin
      exact fin _ a2
    · have e' : ¬ (Mi.sign mi c).mode = .fault := fun z => e (decide_eq_true z)
      rw [if_neg e'] at e1
      dsimp only [tNext]
      obtain ⟨o, a3, ho⟩ := a2
      refine a3.s_count T.t ((Mi.sign mi c).count + 1) ?_ ?_ fun H4 a4 => ?_
      · rfl
      · intro Q q
        dsimp only [tOp]
        exact R2.g_count T.t rfl ⟨_, _, rfl, rfl, q⟩
      exact ⟨some (.int (c : Int)), _, rfl, ⟨o, a4, ho⟩, g2 e', e1⟩
  · rintro σ H1 ⟨v, mi, rfl, a1, g1, e1⟩
    rw [nats_len, List.drop_length, Mi.signs] at e1
    rw [e1] at fin
    exact fin _ a1
end
end Mr
end
section
set_option Elab.async false
set_option linter.all false
set_option maxRecDepth 100000
set_option maxHeartbeats 2000000
namespace L2
open PySem PySem.Spec PyProof.Rows
section
variable {prog : Program} {w : World} {A : Around} {E : Value → Shared → Prop} {s : Shared} {d v it : Addr} {ob : Obj} {es : Array DictEntry} {ep i n : Nat} {kx vx : Value}
theorem itemsCall (nsys : (d == sysModules) = false) : MeetsIn prog w (Builtin.«dict.items» ⟨[.ref d], []⟩) (fun _ R s => s.TypeIs (.ref d) "dict" ∧ R (.ok (.ret (.ref s.heap.objs.size))) { s with heap := s.heap.push { cls := .type "dict_items", data := .fields #[.ref d] } }) :=
  .of_wp fun A R s ⟨ty, fin⟩ => by
    unfold Builtin.«dict.items»; refine wpAny_bind ?_
    unfold Builtin.Dict.noArgs; refine wpAny_bind (wpAny_notOrdered_dict ty ?_)
    show wpAny _ _ (pure d) _ _ s; refine wpAny_pure ?_
    show wpAny _ _ (Builtin.Dict.showsAll d >>= _) _ _ s; unfold Builtin.Dict.showsAll
    rw [if_neg (by rw [nsys]; exact Bool.false_ne_true)]; refine wpAny_bind (wpAny_pure ?_)
    exact wpAny_bind (wpAny_newObj_type (wpAny_pure ⟨_, rfl, fin⟩))
theorem itemsIter {Q : Value → Shared → Prop} (view : s.heap.IsItemsView v d) (at_ : s.heap.get? d = some ob) (dat : ob.data = .dict es ep)
    (fin : Q (.ref s.heap.objs.size) { s with heap := s.heap.push { cls := .type "dict_itemiterator", data := .fields #[.none, .bool false, .ref d, .int 0 0, .int es.size 0, .int ep 0, .none, .none] } }) :
    wpAny (model prog w) A (pyIter (.ref v)) Q E s := by
  obtain ⟨o2, a2, c2, d2⟩ := id view
  refine wpAny_pyIter_slot view.typeIs F.slot_dict_items_iter (wpAny_call_entry F.slot_dict_items_iter view.typeIs F.entry_dict_items_iter ?_ (F.args_dict_items_iter_1 _))
  unfold Builtin.«dict_items.__iter__»; refine wpAny_bind (wpAny_pure ?_); refine wpAny_bind ?_
  unfold Builtin.Dict_items.dictOf; refine wpAny_bind (wpAny_field a2 d2 (x := .ref d) rfl (wpAny_pure ?_)); refine wpAny_bind ?_
  unfold Builtin.Dict_items.newIterator; refine wpAny_bind (wpAny_dictEntries at_ dat ?_); refine wpAny_bind (wpAny_dictEpoch at_ dat ?_)
  have own : Builtin.Dict_items.ownsTuple "dict_itemiterator" = true := by decide
  simp only [own, if_true]
  refine wpAny_newObj_type (wpAny_pure ⟨_, rfl, "dict_itemiterator", _, ⟨_, Heap.get?_push_size _ rfl, rfl⟩, F.slot_dict_itemiterator_next.lookup, ?_⟩) (by simp only [sizeOk, Builtin.Dict_items.ownedTupleFields, List.size_toArray, List.length_append, List.length_cons, List.length_nil, sizeLine_eq]; omega)
  simpa [rawInt, Builtin.Dict_items.ownedTupleFields] using fin
theorem itemsNext {en : DictEntry} {Q : Option Value → Shared → Prop} (hit : IsItemIter s.heap it d i n ep kx vx) (at_ : s.heap.get? d = some ob) (dat : ob.data = .dict es ep) (sz : es.size = n) (hx : es[i]? = some en)
    (fin : ∀ h', IsItemIterOut h' it d (i + 1) n ep en.key en.val s.heap.objs.size → h'.get? s.heap.objs.size = some { cls := .type "tuple", data := .seq #[en.key, en.val] } → h'.objs.size = s.heap.objs.size + 1 →
      (∀ b o, b ≠ it → s.heap.get? b = some o → h'.get? b = some o) → Q (some (.ref s.heap.objs.size)) { s with heap := h' }) :
    wpAny (model prog w) A (pyNext (.ref it)) Q E s := by
  obtain ⟨hp, g, dr, tk, os⟩ := s
  have ty : Shared.TypeIs ⟨hp, g, dr, tk, os⟩ (.ref it) "dict_itemiterator" := ⟨_, hit, rfl⟩
  unfold pyNext
  refine wpAny_bind (wpAny_attempt (wpAny_callSpecial?_slot (name := Str.ofString "__next__") ty F.slot_dict_itemiterator_next (wpAny_call_entry F.slot_dict_itemiterator_next ty F.entry_dict_itemiterator_next ?_ (F.args_dict_itemiterator_next_1 _))))
  refine wpAny_bind (wpAny_pure ?_); refine wpAny_bind ?_; refine wpAny_bind ?_
  first | refine wpAny_bind (wpAny_typeNameOfWhole_itemiter ty (wpAny_pure ?_)) | refine wpAny_bind (wpAny_typeNameOf_itemiter ty (wpAny_pure ?_))
  refine wpAny_bind (wpAny_fieldsOf hit rfl ?_); have own : Builtin.Dict_items.ownsTuple "dict_itemiterator" = true := by decide
  simp only [own, if_true]
  show wpAny _ _ (if (Value.ref d == Value.none) = true then _ else _) _ _ _; rw [if_neg (show ¬ ((Value.ref d == Value.none) = true) from Bool.false_ne_true)]
  refine wpAny_bind (wpAny_pure ?_); refine wpAny_bind (wpAny_dictEntries at_ dat ?_)
  rw [if_neg (by rw [sz]; simp)]; refine wpAny_bind (wpAny_pure ?_); refine wpAny_bind (wpAny_dictEpoch at_ dat ?_)
  rw [if_neg (by simp)]; refine wpAny_pure ?_
  obtain ⟨lt, een⟩ := Array.getElem?_eq_some_iff.mp hx
  simp only [show ¬ ((i : Int) < 0) from by omega, if_false, Int.toNat_natCast, Array.getElem?_eq_getElem lt]; refine wpAny_bind ?_
  first | refine wpAny_bind (wpAny_typeNameOfWhole_itemiter ty (wpAny_pure ?_)) | refine wpAny_bind (wpAny_typeNameOf_itemiter ty (wpAny_pure ?_))
  refine wpAny_bind (wpAny_isOneOf_itemiter ty ?_); show wpAny _ _ (setField (.ref it) 3 (rawInt ((i : Int) + 1)) >>= _) _ _ ⟨hp, g, dr, tk, os⟩
  refine wpAny_bind (wpAny_setField_rec hit (by simp) fun k1 e1 b1 => ?_); rw [een]
  replace b1 : Heap.SameBut it hp k1 := b1
  replace e1 : IsItemIter k1 it d (i + 1) n ep kx vx := by
    have e : ((i + 1 : Nat) : Int) = (i : Int) + 1 := by omega
    unfold IsItemIter; rw [e]; simpa [rawInt] using e1
  have ty1 : Shared.TypeIs ⟨k1, g, dr, tk, os⟩ (.ref it) "dict_itemiterator" := ⟨_, e1, rfl⟩
  refine wpAny_bind (wpAny_holding ?_); refine wpAny_bind (wpAny_isOneOf_itemiter ty1 ?_); refine wpAny_bind (wpAny_isOneOf_itemiter ty1 ?_)
  show wpAny _ _ (Builtin.Dict_items.pairFromOwner (.ref it) 6 en.key en.val) _ _ ⟨k1, g, dr, tk, os⟩; unfold Builtin.Dict_items.pairFromOwner
  refine wpAny_bind (wpAny_newTuple ?_)
  have e2 : IsItemIter (k1.push { cls := .type "tuple", data := .seq #[en.key, en.val] }) it d (i + 1) n ep kx vx := Heap.get?_push_of_some _ e1
  generalize hh : k1.push { cls := .type "tuple", data := .seq #[en.key, en.val] } = k2 at e2
  have z1 : k1.objs.size = hp.objs.size := b1.1
  have il : it < hp.objs.size := Heap.lt_size hit
  have t2 : k2.get? hp.objs.size = some { cls := .type "tuple", data := .seq #[en.key, en.val] } := by rw [← hh, ← z1]; exact Heap.get?_push_size _ rfl
  have z2 : k2.objs.size = hp.objs.size + 1 := by rw [← hh, Heap.size_push, z1]
  have kk : ∀ b o, b ≠ it → hp.get? b = some o → k2.get? b = some o := fun b o hb e => by rw [← hh]; exact Heap.get?_push_of_some _ (b1.extBut b o hb e)
  show wpAny _ _ (Builtin.Dict_items.ownedTupleIsFree (.ref it) >>= _) _ _ ⟨k2, g, dr, tk, os⟩; rw [z1]; clear hh e1 b1 ty1 z1 k1
  refine wpAny_bind ?_; unfold Builtin.Dict_items.ownedTupleIsFree; refine wpAny_bind (wpAny_field e2 rfl (x := .none) rfl (wpAny_pure ?_)); simp only [if_true]
  refine wpAny_bind (wpAny_field e2 rfl (x := kx) rfl ?_); refine wpAny_bind (wpAny_field e2 rfl (x := vx) rfl ?_)
  refine wpAny_bind (wpAny_setField_rec e2 (by simp) fun k3 e3 b3 => ?_)
  replace b3 : Heap.SameBut it k2 k3 := b3
  replace e3 : IsItemIter k3 it d (i + 1) n ep en.key vx := e3
  refine wpAny_bind (wpAny_setField_rec e3 (by simp) fun k4 e4 b4 => ?_)
  replace b4 : Heap.SameBut it k3 k4 := b4
  replace e4 : IsItemIter k4 it d (i + 1) n ep en.key en.val := e4
  refine wpAny_bind (wpAny_setField_rec e4 (by simp) fun k5 e5 b5 => ?_)
  replace b5 : Heap.SameBut it k4 k5 := b5
  replace e5 : IsItemIterOut k5 it d (i + 1) n ep en.key en.val hp.objs.size := e5
  refine wpAny_bind (wpAny_setField_rec e5 (by simp) fun k6 e6 b6 => ?_)
  replace b6 : Heap.SameBut it k5 k6 := b6
  replace e6 : IsItemIterOut k6 it d (i + 1) n ep en.key en.val hp.objs.size := e6
  have ne := Nat.ne_of_gt il
  refine wpAny_bind (wpAny_letGo (wpAny_pure (wpAny_pure ⟨_, rfl, wpAny_pure (fin k6 e6 ?_ ?_ ?_)⟩)))
  · exact b6.extBut _ _ ne (b5.extBut _ _ ne (b4.extBut _ _ ne (b3.extBut _ _ ne t2)))
  · show k6.objs.size = hp.objs.size + 1; rw [b6.1, b5.1, b4.1, b3.1, z2]
  · exact fun b o hb e => b6.extBut b o hb (b5.extBut b o hb (b4.extBut b o hb (b3.extBut b o hb (kk b o hb e))))
theorem itemsEnd {Q : Option Value → Shared → Prop} (hh : A.handled = none) (hit : IsItemIter s.heap it d i n ep kx vx) (at_ : s.heap.get? d = some ob) (dat : ob.data = .dict es ep) (sz : es.size = n) (ge : n ≤ i)
    (fin : ∀ h', Heap.ExtBut it s.heap h' → Q none { s with heap := h' }) : wpAny (model prog w) A (pyNext (.ref it)) Q E s := by
  have ty : s.TypeIs (.ref it) "dict_itemiterator" := ⟨_, hit, rfl⟩
  unfold pyNext
  refine wpAny_bind (wpAny_attempt (wpAny_callSpecial?_slot (name := Str.ofString "__next__") ty F.slot_dict_itemiterator_next (wpAny_call_entry F.slot_dict_itemiterator_next ty F.entry_dict_itemiterator_next ?_ (F.args_dict_itemiterator_next_1 _))))
  refine wpAny_bind (wpAny_pure ?_); refine wpAny_bind ?_; refine wpAny_bind ?_
  first | refine wpAny_bind (wpAny_typeNameOfWhole_itemiter ty (wpAny_pure ?_)) | refine wpAny_bind (wpAny_typeNameOf_itemiter ty (wpAny_pure ?_))
  refine wpAny_bind (wpAny_fieldsOf hit rfl ?_); have own : Builtin.Dict_items.ownsTuple "dict_itemiterator" = true := by decide
  simp only [own, if_true]
  show wpAny _ _ (if (Value.ref d == Value.none) = true then _ else _) _ _ s; rw [if_neg (show ¬ ((Value.ref d == Value.none) = true) from Bool.false_ne_true)]
  refine wpAny_bind (wpAny_pure ?_); refine wpAny_bind (wpAny_dictEntries at_ dat ?_)
  rw [if_neg (by rw [sz]; simp)]; refine wpAny_bind (wpAny_pure ?_); refine wpAny_bind (wpAny_dictEpoch at_ dat ?_)
  rw [if_neg (by simp)]; refine wpAny_pure ?_
  have ge2 : es.size ≤ i := by rw [sz]; exact ge
  simp only [show ¬ ((i : Int) < 0) from by omega, if_false, Int.toNat_natCast, Array.getElem?_eq_none ge2]; refine wpAny_bind ?_
  first | refine wpAny_bind (wpAny_typeNameOfWhole_itemiter ty (wpAny_pure ?_)) | refine wpAny_bind (wpAny_typeNameOf_itemiter ty (wpAny_pure ?_))
  show wpAny _ _ (setField (.ref it) 2 .none >>= _) _ _ s; refine wpAny_bind (wpAny_setField hit rfl (by simp) ?_)
  show wpAny _ _ (newExc (.type "StopIteration") [] >>= _) _ _ _; refine wpAny_bind ?_; simp only [newExc, newTuple]
  refine wpAny_bind (wpAny_newObj_type ?_ (by size_fits)); refine wpAny_bind (m := firstArgMember _ _) (wpAny_of_eq (a := Value.none) (by first | rfl | (simp only [firstArgMember]; rfl)) ?_)
  refine wpAny_newObj_type ?_ (by size_fits); simp only [raiseNew]; refine wpAny_bind (wpAny_handled ?_); rw [show A.in1.handled = none from hh]
  refine wpAny_bind (wpAny_pure (wpAny_throw ?_)); refine wpAny_bind (wpAny_isInstance (T := "StopIteration") (b := true) ⟨_, Heap.get?_push_size _ rfl, rfl⟩ isSubtype_stop ?_)
  exact wpAny_pure (fin _ (((Heap.SameBut.update ..).extBut.push _).push _))
end
end L2
end
section
set_option Elab.async false
set_option linter.all false
set_option maxRecDepth 100000
set_option maxHeartbeats 2000000
namespace L2
open PySem PySem.Spec PyProof.Rows
section
variable {X : Cx} {pins : List (Addr × Obj)} {σ : St} {H : Hp} {s : Shared} {d : Addr} {o : Obj}
theorem Inv.lockedT {kvs : List (List Key × V)} (I : Inv X pins σ H s) (h : H d = some (.frz o (.dT kvs))) :
    (d == sysModules) = false ∧ s.heap.get? d = some o ∧ o.ExactDict ∧ kvs.length ≤ sizeLine ∧ ∃ (es : Array DictEntry) (ep : Nat), o.data = .dict es ep ∧ es.size = kvs.length ∧
      ∀ (i : Nat) (k : List Key) (v : V), kvs[i]? = some (k, v) → ∃ (en : DictEntry) (q : Addr), es[i]? = some en ∧ en.key = .ref q ∧ H q = some (.tup (k.map kV)) ∧ RelV v en.val := by
  obtain ⟨hd, z, hs, xs, pr, ob, es, ep, ho, hx, hdt, he, _⟩ := I.hok d _ h
  rw [hd] at ho; cases ho
  refine ⟨hs, hd, hx, z, es, ep, hdt, ?_, fun i k v e => ?_⟩
  · have l1 : es.size = xs.length := size_of_entries he
    have l2 : kvs.length = xs.length := Paired.length pr
    omega
  · obtain ⟨b, hb, e1, e2, e3⟩ := paired_get pr e
    have q := entry_at he i
    rw [hb] at q
    exact ⟨_, b.2.1, q, rfl, e2, e3⟩
def ItiT (d : Addr) (o : Obj) (kvs : List (List Key × V)) : It :=
  ⟨fun i H => H d = some (.frz o (.dT kvs)) ∧ i < kvs.length, fun i H x H' => ∃ T q k v, kvs[i]? = some (k, v) ∧ x = .ref T ∧ H q = some (.tup (k.map kV)) ∧ H T = none ∧ H' = upd H T (.tup [.ref q, v]), fun i H => H d = some (.frz o (.dT kvs)) ∧ kvs.length ≤ i⟩
end
section
variable {P : Program} {w : World} {K : PySem.W.Frag} {d : Addr} {o : Obj} {es : Array DictEntry} {ep : Nat}
theorem turn_itemsT {kvs : List (List Key × V)} {elts : List Expr} {kk : Nat} {tpos : Pos} (it : Addr) (hod : o.data = .dict es ep) :
    Turn P w K (.Tuple elts kk tpos) (ItiT d o kvs) [it] it (fun i h => ∃ ok ov, IsItemIter h it d i kvs.length ep ok ov) where
  mem := by simp
  obj := fun i h st b hb => by
    have e : b = it := by simpa using hb
    subst e
    obtain ⟨ok, ov, e⟩ := st
    exact ⟨_, e, fun v z => nomatch z⟩
  keep := fun i h h' st k => let ⟨ok, ov, e⟩ := st; ⟨ok, ov, k it (by simp) _ e⟩
  item := by
    intro X hP hw hK hc i pins s σ H E I hf st hg
    subst hP hw hK
    obtain ⟨hd, hi⟩ := hg
    obtain ⟨hs, hgd, hx, hz, es', ep', hdt, hsz, ent⟩ := I.lockedT hd
    obtain ⟨rfl, rfl⟩ := dict_ep hod hdt
    obtain ⟨⟨k, v⟩, hkv⟩ : ∃ p, kvs[i]? = some p := ⟨kvs[i], List.getElem?_eq_getElem hi⟩
    obtain ⟨en, q, hen, hkey, hq, hv⟩ := ent i k v hkv
    obtain ⟨ok, ov, he⟩ := st
    have hlt : it < s.heap.objs.size := Heap.lt_size he
    refine itemsNext he hgd hdt hsz hen fun h' ho hT hz2 hk => ?_
    refine ⟨_, rfl, wpAny_letOwnedTupleGo_items (s := { s with heap := h' }) ho fun h'' he' sb => ?_⟩
    have hT2 : h''.get? s.heap.objs.size = some { cls := .type "tuple", data := .seq #[en.key, en.val] } := (sb.2 _ (Nat.ne_of_gt hlt)).trans hT
    have new : ObjOk X.prog X.w (upd H s.heap.objs.size (.tup [.ref q, v])) h'' s.heap.objs.size (.tup [.ref q, v]) :=
      ⟨by show 2 ≤ sizeLine; decide, [en.key, en.val], .cons hkey (.cons hv .nil), ⟨_, hT2, rfl, _, rfl⟩⟩
    have I1 : Inv X pins σ (upd H s.heap.objs.size (.tup [.ref q, v])) { s with heap := h'' } :=
      I.turnedNew (t' := s.toks) (ch := [it]) (fun b ob hb e => (sb.2 b (by simpa using hb)).trans (hk b ob (by simpa using hb) e)) hf (Nat.le_refl _) new
    refine ⟨.ref s.heap.objs.size, _, I1, rfl, ⟨_, q, k, v, hkv, rfl, hq, I.hok.fresh (Nat.le_refl _), rfl⟩, ⟨_, _, he'⟩, fun b hb => ?_⟩
    have e : b = it := by simpa using hb
    rw [e, upd_ne (Nat.ne_of_lt hlt)]
    exact (hf it (by simp)).1
  done := by
    intro X hP hw hK hc i pins s σ H E I hf st hg
    subst hP hw hK
    obtain ⟨hd, hi⟩ := hg
    obtain ⟨f0, f1, f2, f3, f4, f5⟩ := hf it (by simp)
    obtain ⟨hs, hgd, hx, hz, es', ep', hdt, hsz, ent⟩ := I.lockedT hd
    obtain ⟨rfl, rfl⟩ := dict_ep hod hdt
    obtain ⟨ok, ov, he⟩ := st
    exact itemsEnd (I.ok.hd hc) he hgd hdt hsz hi fun h' eb => ⟨rfl, I.turned (t' := s.toks) (fun b ob hb e => eb b ob hb e) f0 f1 f3 f4 f5⟩
  self := fun A i s Q E st h => let ⟨_, _, e⟩ := st; PySem.W.kcp_self e h
end
def iItemsT (td : TE) : TI := fun σ H R => td σ H fun x H1 => ∃ d o kvs, x = .ref d ∧ H1 d = some (.frz o (.dT kvs)) ∧ R (ItiT d o kvs) H1
section
variable {X : Cx} {e : Expr} {td : TE} {apos cpos : Pos}
theorem pi_itemsT {elts : List Expr} {kk : Nat} {tpos : Pos} (he : PE X e td) (hbase : attributeBase e "items" X.env (eval e X.env) = eval e X.env := by rfl) (hline : (apos.endLine == cpos.line) = true := by rfl) :
    PI X (.Tuple elts kk tpos) (.Call (.Attribute e "items" apos) [] [] cpos) (iItemsT td) := by
  intro pins s σ H R I h
  refine wpAny_Call_method (T := "dict") (id := "dict.items") hbase rfl hline F.plainAttrs_dict F.slot_dict_items F.type_dict_items (thn (he pins s σ H _ I h) fun u s1 ⟨x, H1, I1, rx, d, o, kvs, ex, hd, q⟩ => ?_)
  subst ex
  obtain rfl : u = Value.ref d := rx
  obtain ⟨hs, hgd, hx, hz, es, ep, hdt, hsz, ent⟩ := I1.lockedT hd
  have ty : s1.TypeIs (.ref d) "dict" := ⟨o, hgd, hx.1⟩
  refine ⟨ty, fun b q => by cases q; exact ⟨o, hgd, hx.2.1⟩, ?_⟩
  have I2 : Inv X pins σ H1 { s1 with heap := s1.heap.push { cls := .type "dict_items", data := .fields #[.ref d] } } := I1.kept (t' := s1.toks) fun b ob q => Heap.get?_push_of_some _ q
  have fin : wpAny (model X.prog X.w) X.A (pyIter (.ref s1.heap.objs.size)) (PIE X pins σ (.Tuple elts kk tpos) R) X.xe { s1 with heap := s1.heap.push { cls := .type "dict_items", data := .fields #[.ref d] } } := by
    refine itemsIter (d := d) ⟨_, Heap.get?_push_size _ rfl, rfl, rfl⟩ (Heap.get?_push_of_some _ hgd) hdt (pi_one (tk := s1.toks) I2 _ (turn_itemsT _ hdt) ⟨.none, .none, ?_⟩ q)
    rw [hsz]
    exact Heap.get?_push_size _ rfl
  show wpAny _ _ (callWith cpos (.builtin "dict.items") [.ref d] [] []) _ X.xe s1
  exact method_meetsIn F.slot_dict_items F.entry_dict_items rfl (PySem.evalArgs_none ⟨rfl, ty, F.args_dict_items_1 _, _, itemsCall hs, ty, fin⟩)
theorem for_itemsT {d : Addr} {o : Obj} {kvs : List (List Key × V)} {g : TG} {tb : TS} {D : Ends} {σ : St} {H : Hp} (Pv : Nat → St → Hp → Prop) (h0 : Pv 0 σ H) (hl : ∀ i σ H, i ≤ kvs.length → Pv i σ H → H d = some (.frz o (.dT kvs)))
    (hs : ∀ i k v q T σ H, kvs[i]? = some (k, v) → Pv i σ H → H q = some (.tup (k.map kV)) → H T = none → g (.ref T) σ (upd H T (.tup [.ref q, v])) fun σ2 H2 => tb { D with nx := Pv (i + 1), ct := Pv (i + 1), bk := D.nx } σ2 H2) (hd : ∀ σ H, Pv kvs.length σ H → D.nx σ H) :
    ∃ W : Nat → Nat → St → Hp → Prop, (∃ m, W 0 m σ H) ∧ ∀ i m σ H, W i m σ H →
      ((ItiT d o kvs).stop i H ∧ D.nx σ H) ∨ ((ItiT d o kvs).go i H ∧ ∃ N : St → Hp → Prop, (∀ σ' H', N σ' H' → ∃ m', m' < m ∧ W (i + 1) m' σ' H') ∧ ∀ x H', (ItiT d o kvs).yld i H x H' → g x σ H' fun σ2 H2 => tb { D with nx := N, ct := N, bk := D.nx } σ2 H2) := by
  refine ⟨fun i m σ H => m = kvs.length - i ∧ i ≤ kvs.length ∧ Pv i σ H, ⟨kvs.length, by simp, Nat.zero_le _, h0⟩, ?_⟩
  rintro i m σ H ⟨rfl, hi, p⟩
  have q := hl i σ H hi p
  by_cases hlt : i < kvs.length
  · refine .inr ⟨⟨q, hlt⟩, Pv (i + 1), fun σ' H' p' => ⟨kvs.length - (i + 1), by omega, rfl, hlt, p'⟩, fun x H' y => ?_⟩
    obtain ⟨T, a, k, v, e1, rfl, e2, e3, rfl⟩ := y
    exact hs i k v a T σ H e1 p e2 e3
  · have e : i = kvs.length := by omega
    subst e
    exact .inl ⟨⟨q, Nat.le_refl _⟩, hd σ H p⟩
theorem call_lenT : CallR X (.builtin "len") (fun xs H Q => ∃ a kvs, xs = [V.ref a] ∧ H a = some (.dT kvs) ∧ Q (.int kvs.length) H) := by
  intro pins s σ H xs us Q I r h
  obtain ⟨a, kvs, rfl, ha, q⟩ := h
  obtain ⟨u, rfl, ru⟩ := vals1 r
  cases ru
  obtain ⟨hz, hs, xs, pr, ob, es, ep, ho, hx, hdt, he, _⟩ := I.hok a _ ha
  have sz : es.size = kvs.length := by
    have l1 : es.size = xs.length := size_of_entries he
    have l2 : kvs.length = xs.length := Paired.length pr
    omega
  have ty : s.TypeIs (.ref a) "dict" := ⟨ob, ho, hx.1⟩
  have small : ((kvs.length : Nat) : Int) < 2 ^ 63 := by rw [sizeLine_eq] at hz; omega
  have meets : MeetsIn X.prog X.w (Builtin.«dict.__len__» ⟨[.ref a], []⟩) (fun _ R s' => s'.heap.get? a = some ob ∧ R (.ok (.ret (.int kvs.length s'.toks))) { s' with toks := s'.toks + 1 }) :=
    .of_wp fun A R s' ⟨ho', fin⟩ => by
      show wpAny _ _ (dictSize a >>= _) _ _ s'
      unfold dictSize; refine wpAny_bind (wpAny_bind (wpAny_dictEntries ho' hdt (wpAny_pure ?_)))
      show wpAny _ _ (Builtin.Dict.pendingCount a >>= _) _ _ s'
      refine wpAny_bind (wpAny_pendingCount_other hs ?_); refine wpAny_ret_mkInt ?_
      rw [Nat.add_zero, sz]; exact fin
  refine Calls.call_function_entry kind_len plain_len entry_len (args_len1 _) ?_
  unfold Builtin.«len»; refine wpAny_bind (m := oneArg "len" _) (wpAny_pure ?_)
  refine wpAny_bind (m := callSpecial? (.ref a) (Str.ofString "__len__")) (wpAny_callSpecial?_slot (name := Str.ofString "__len__") ty F.slot_dict_len (call_meetsIn F.slot_dict_len ty F.entry_dict_len (F.args_dict_len_1 _) meets ⟨ho, ?_⟩))
  show wpAny _ _ _ _ _ { s with toks := s.toks + 1 }
  refine wpAny_bind (wpAny_holding (wpAny_pure ?_)); refine wpAny_bind (wpAny_letGo ?_)
  show wpAny _ _ (if ((kvs.length : Nat) : Int) < 0 then _ else _) _ _ _; rw [if_neg (by omega)]
  show wpAny _ _ (if ((kvs.length : Nat) : Int) ≥ 2 ^ 63 then _ else _) _ _ _; rw [if_neg (by omega)]
  exact wpAny_bind (wpAny_mkInt (wpAny_pure ⟨_, rfl, ⟨.int kvs.length, H, I.tok _, ⟨_, rfl⟩, q⟩⟩))
def rExtendT (K : PySem.W.Frag) : V → List V → Hp → VK → Prop := fun x vs H Q => ∃ l b xs zs, x = .ref l ∧ vs = [.ref b] ∧ H l = some (.lst xs) ∧ Mr.PlainT K b zs ∧ xs.length + zs.length ≤ sizeLine ∧ Q .non (upd H l (.lst (xs ++ zs)))
theorem mt_extendT : MtM X "list.extend" (rExtendT X.K) := by
  intro pins s σ H x vs v us Q I rx rv h
  obtain ⟨l, b, xs, zs, rfl, rfl, hH, ⟨hz2, its2, n2, r2, lk⟩, hz, q⟩ := h
  cases rx
  obtain ⟨u, rfl, ru⟩ := rv.one
  cases ru
  obtain ⟨z, its, n, r, hl, e⟩ := I.lstM hH
  have e2 := I.kIn _ _ lk
  have hl2 := r2.length
  have fits : its.toArray.size + its2.toArray.size ≤ sizeLine := by rw [List.size_toArray, List.size_toArray]; omega
  have short : ¬ (!its.toArray.isEmpty && Builtin.List.listTooLong (its.toArray.size + its2.toArray.size)) = true := by
    rw [notLongL fits, Bool.and_false]; exact Bool.false_ne_true
  refine call_meets F.slot_list_extend ⟨_, e, rfl⟩ F.entry_list_extend (F.args_list_extend_2 _ _) (AutoSeq1.list_extend_list_tuple_0 l its.toArray n b its2.toArray n2 short (by rw [List.size_toArray]; omega) (by omega)) ⟨e, e2, ?_⟩
  refine ⟨.non, _, I.lset (its' := its ++ its2) hH e (by simp) (r.append r2) ?_, rfl, q⟩
  rw [List.length_append]; omega
end
end L2
end
section
set_option Elab.async false
set_option linter.all false
set_option maxRecDepth 100000
set_option maxHeartbeats 2000000
namespace Mr
open PySem PySem.Spec PyProof.Rows L2 Hr
open Vaesca (Text Token Reader Mode Home)
def RetL (H : Hp) (xs : List V) (Q : VK) : Prop := ∀ H' q, Same H H' → H q = none → H' q = some (.lst xs) → Q (.ref q) H'
def NewL (te : TE) (σ : L2.St) (H : Hp) (xs : List V) : Prop := ∀ Q : VK, RetL H xs Q → te σ H Q
def ValL (te : TE) (σ : L2.St) (H : Hp) (xs : List V) : Prop := ∀ Q : VK, (∀ H' q, Same H H' → H' q = some (.lst xs) → Q (.ref q) H') → te σ H Q
section
variable {K : PySem.W.Frag} {C : Cl} {σ : L2.St} {H : Hp} {xs ys : List V} {te ta tb : TE} {t : TA}
theorem NewL.val (h : NewL te σ H xs) : ValL te σ H xs := fun Q q => h Q fun H' p s _ e => q H' p s e
theorem cat_new (ha : ValL ta σ H xs) (hb : ∀ H1, Same H H1 → ValL tb σ H1 ys) (hl : xs.length + ys.length ≤ sizeLine) : NewL (tOp rCat ta tb) σ H (xs ++ ys) := by
  intro Q fin
  refine ha _ fun H1 q1 s1 e1 => hb H1 s1 _ fun H2 q2 s2 e2 => ?_
  exact ⟨q1, q2, xs, ys, rfl, rfl, s2 _ _ e1, e2, hl, fun p hp => fin _ p (s1.trans (s2.trans (Same.upd hp))) ((s1.trans s2).free hp) upd_same⟩
theorem lst_new (ha : ∀ Q : List V → Hp → Prop, Q xs H → t σ H Q) (hl : xs.length ≤ sizeLine) : NewL (tLst t) σ H xs := fun Q fin => ha _ ⟨hl, fun p hp => fin _ p (Same.upd hp) hp upd_same⟩
theorem list_new {a : Addr} (he : ∀ Q : VK, Q (.ref a) H → te σ H Q) (hs : SqL K H a xs ∨ SqT K H a xs) :
    NewL (tCB (fun zs H Q => ∃ p ys, zs = [V.ref p] ∧ (SqL K H p ys ∨ SqT K H p ys) ∧ ∀ l, H l = none → Q (.ref l) (upd H l (.lst ys))) (tCons te tNil)) σ H xs :=
  fun Q fin => he _ ⟨a, xs, rfl, hs, fun l hl => fin _ l (Same.upd hl) hl upd_same⟩
theorem old_val {a : Addr} (he : ∀ Q : VK, Q (.ref a) H → te σ H Q) (hs : H a = some (.lst xs)) : ValL te σ H xs := fun Q fin => he _ (fin H a (Same.refl H) hs)
end
def TokH (C : Cl) (H : Hp) (v : V) (t : Token) : Prop := ∃ ρ, TokP C H ρ v t
theorem TokH.same {C : Cl} {H H' : Hp} {v : V} {t : Token} (h : TokH C H v t) (s : Same H H') : TokH C H' v t := by
  obtain ⟨ρ, h⟩ := h
  obtain ⟨ρ', S, _⟩ := Stay.same (ρ := ρ) s
  exact ⟨ρ', h.keep S trivial⟩
section
variable {K : PySem.W.Frag} {C : Cl} {H : Hp} {σ : L2.St} {i : Nat} {Q : VK} {t : Token} {a dx ls d : Addr}
theorem k_kind (T : Txt K C) (h : H a = some (.ins C.tok dx (tfs (tokKind t) (tokPlace t) ls d (tokEnded t)))) (hp : σ[i]? = some (some (.ref a))) (q : Q (.int (tokKind t : Int)) H) : tFld K (tVar i) "kind" σ H Q := ⟨_, hp, a, C.tok, dx, _, _, rfl, h, T.clT, T.t1, rfl, q⟩
theorem k_place (T : Txt K C) (h : H a = some (.ins C.tok dx (tfs (tokKind t) (tokPlace t) ls d (tokEnded t)))) (hp : σ[i]? = some (some (.ref a))) (q : Q (.int (tokPlace t : Int)) H) : tFld K (tVar i) "place" σ H Q := ⟨_, hp, a, C.tok, dx, _, _, rfl, h, T.clT, T.t2, rfl, q⟩
theorem k_signs (T : Txt K C) (h : H a = some (.ins C.tok dx (tfs (tokKind t) (tokPlace t) ls d (tokEnded t)))) (hp : σ[i]? = some (some (.ref a))) (q : Q (.ref ls) H) : tFld K (tVar i) "signs" σ H Q := ⟨_, hp, a, C.tok, dx, _, _, rfl, h, T.clT, T.t3, rfl, q⟩
theorem k_attrs (T : Txt K C) (h : H a = some (.ins C.tok dx (tfs (tokKind t) (tokPlace t) ls d (tokEnded t)))) (hp : σ[i]? = some (some (.ref a))) (q : Q (.ref d) H) : tFld K (tVar i) "attributes" σ H Q := ⟨_, hp, a, C.tok, dx, _, _, rfl, h, T.clT, T.t4, rfl, q⟩
theorem k_ended (T : Txt K C) (h : H a = some (.ins C.tok dx (tfs (tokKind t) (tokPlace t) ls d (tokEnded t)))) (hp : σ[i]? = some (some (.ref a))) (q : Q (.int (tokEnded t : Int)) H) : tFld K (tVar i) "ended" σ H Q := ⟨_, hp, a, C.tok, dx, _, _, rfl, h, T.clT, T.t5, rfl, q⟩
end
def refOf (c : Nat) : Text := if c = 34 then [38, 113, 117, 111, 116, 59] else if c = 38 then [38, 97, 109, 112, 59] else [38, 108, 116, 59]
def wr (rs : Text) (c : Nat) : Text := if rs.contains c then refOf c else [c]
theorem refOf_len (c : Nat) : (refOf c).length ≤ 6 ∧ 1 ≤ (refOf c).length := by
  unfold refOf
  split
  · exact ⟨by decide, by decide⟩
  · split <;> exact ⟨by decide, by decide⟩
theorem wr_len (rs : Text) (c : Nat) : (wr rs c).length ≤ 6 := by
  unfold wr
  split
  · exact (refOf_len c).1
  · exact (by decide : 1 ≤ 6)
theorem flat_len (rs : Text) : ∀ t : Text, (t.flatMap (wr rs)).length ≤ 6 * t.length
  | [] => by simp
  | c :: t => by
    rw [List.flatMap_cons, List.length_append, List.length_cons]
    have := wr_len rs c
    have := flat_len rs t
    omega
theorem writeText_eq (t : Text) : t.flatMap (wr [38, 60]) = Vaesca.writeText t := by
  unfold Vaesca.writeText
  congr 1
  funext c
  unfold wr refOf Vaesca.writeTextSign
  by_cases h1 : c = 38
  · subst h1; rfl
  · by_cases h2 : c = 60
    · subst h2; rfl
    · have : [38, 60].contains c = false := by simp [h1, h2]
      rw [this]
      simp [h1, h2]
theorem writeValue_eq (t : Text) : t.flatMap (wr [38, 34]) = Vaesca.writeValue t := by
  unfold Vaesca.writeValue
  congr 1
  funext c
  unfold wr refOf Vaesca.writeValueSign
  by_cases h1 : c = 38
  · subst h1; rfl
  · by_cases h2 : c = 34
    · subst h2; rfl
    · have : [38, 34].contains c = false := by simp [h1, h2]
      rw [this]
      simp [h1, h2]
theorem take_succ {α : Type} {t : List α} {i : Nat} {c : α} (h : t[i]? = some c) : t.take (i + 1) = t.take i ++ [c] := by
  rw [List.take_succ, h]; rfl
section
variable {P : Program} {w : World} {K : PySem.W.Frag} {mg : Str → Option Value} {base : Heap} {B : Adr}
theorem D_with_references (T : Tx P w K mg B) : DefOk P w K mg base "with_references" B.f_with_references 1 ["signs", "replaced"] (fun vs H Q _ => ∃ (l r : Addr) (t rs : Text), vs = [.ref l, .ref r] ∧ H l = some (.lst (nats t)) ∧ H r = some (.tup (nats rs)) ∧
    (∀ c ∈ rs, c = 34 ∨ c = 38 ∨ c = 60) ∧ 6 * t.length ≤ sizeLine ∧ RetL H (nats (t.flatMap (wr rs))) Q) := by
  refine mkDef T.f_with_references sc_with_references ?_ fun cdv A0 outer s0 H vs Q E hr h => ?_
  · rintro vs H Q E ⟨l, r, t, rs, rfl, _⟩
    rfl
  obtain ⟨l, r, t, rs, rfl, hl, hrr, hrs, hz, fin⟩ := h
  refine ⟨_, (pss_cons (ps_set (i := 2) sc_with_references.nd rfl (Or.inl rfl) (pe_lst pa_nil)) (pss_cons (ps_for PassesOwn.never rfl (pi_list (pv 0)) (pg_name (i := 3) sc_with_references.nd rfl (Or.inl rfl)) (pss_one (ps_if (pt_cmpR op_in_seq (pv 3) (pv 1) rfl) (pss_one (ps_expr (pe_bm PySem.F.plainAttrs_list PySem.F.slot_list_extend PySem.F.type_list_extend mt_extendT (pv 2) (pa_cons (pe_kget (hu_of hr) (pga T.a_REFERENCES) (pv 3) (fun _ _ => rfl)) pa_nil)))) (pss_one (ps_expr (pe_bm PySem.F.plainAttrs_list PySem.F.slot_list_append PySem.F.type_list_append mt_append (pv 2) (pa_cons (pv 3) pa_nil))))))) (pss_one (ps_ret (pv 2))))), ?_⟩
  dsimp only [tSeq]
  refine ⟨Nat.zero_le _, fun q hq => ?_⟩
  refine ⟨_, rfl, l, rfl, ⟨_, SqL.of (Same.upd hq _ _ hl)⟩, for_list (K := K) (a := l) (xs := nats t) (fun i σ H' => ∃ v, σ = [some (.ref l), some (.ref r), some (.ref q), v] ∧ Same H H' ∧ H' q = some (.lst (nats ((t.take i).flatMap (wr rs)))))
    ⟨none, rfl, Same.upd hq, upd_same⟩ (fun i σ H' _ z => by obtain ⟨v, _, s, _⟩ := z; exact SqL.of (s _ _ hl)) ?_ ?_⟩
  · rintro i y σ H1 hi ⟨v, rfl, s1, h1⟩
    obtain ⟨c, hc, rfl, _⟩ := nats_at hi
    have room : (nats ((t.take i).flatMap (wr rs))).length + 6 ≤ sizeLine := by
      rw [nats_len]
      have := flat_len rs (t.take i)
      have hi2 : i < t.length := (List.getElem?_eq_some_iff.mp hc).1
      rw [List.length_take] at this
      omega
    have nxt : ∀ u : Text, wr rs c = u → ∃ v, [some (V.ref l), some (V.ref r), some (V.ref q), some (V.int (c : Int))] = [some (.ref l), some (.ref r), some (.ref q), v] ∧ Same H (upd H1 q (.lst (nats ((t.take i).flatMap (wr rs)) ++ nats u))) ∧
        upd H1 q (.lst (nats ((t.take i).flatMap (wr rs)) ++ nats u)) q = some (.lst (nats ((t.take (i + 1)).flatMap (wr rs)))) := by
      intro u hu
      refine ⟨_, rfl, fun b o e => by rw [upd_ne (ne_of_none e hq)]; exact s1 b o e, ?_⟩
      rw [upd_same, take_succ hc, List.flatMap_append, nats_app]
      simp [hu]
    refine ⟨_, rfl, _, rfl, r, _, rfl, .inr (SqT.of (s1 _ _ hrr)), rfl, ?_, _, rfl, ?_⟩
    · unfold nats
      rw [List.all_map]
      exact List.all_eq_true.mpr fun _ _ => rfl
    have e3 : inV (.int (c : Int)) (nats rs) = rs.contains c := inV_nat c rs
    rw [if_neg Bool.false_ne_true, e3]
    refine ite2 (fun e => ?_) fun e => ?_
    · have hm : c ∈ rs := by simpa using e
      have hw : wr rs c = refOf c := by unfold wr; rw [if_pos e]
      have put : ∀ (x : Addr), PlainT K x (nats (refOf c)) → some (V.ref x) = valV ([(Sum.inl 34, .ref B.r_34), (Sum.inl 38, .ref B.r_38), (Sum.inl 60, .ref B.r_60)] : List (Key × V)) (Sum.inl (c : Int)) → tDrop (tBM K "list" (rExtendT K) (tVar 2) (tCons (tKGet P w K (tC (.ref B.d_REFERENCES)) (tVar 3)) tNil))
          { nx := fun σ H' => ∃ v, σ = [some (.ref l), some (.ref r), some (.ref q), v] ∧ Same H H' ∧ H' q = some (.lst (nats ((t.take (i + 1)).flatMap (wr rs)))), rt := Q, ct := fun σ H' => ∃ v, σ = [some (.ref l), some (.ref r), some (.ref q), v] ∧ Same H H' ∧ H' q = some (.lst (nats ((t.take (i + 1)).flatMap (wr rs)))), bk := tRet (tVar 2) { nx := fun _ H' => Q .non H', rt := Q } }
          [some (V.ref l), some (V.ref r), some (V.ref q), some (V.int (c : Int))] H1 := by
        intro x hx hv
        refine ⟨_, rfl, .inl ⟨rfl, _, SqL.of h1⟩, _, rfl, B.d_REFERENCES, _, rfl, .inl ⟨_, Sum.inl (c : Int), T.d_REFERENCES, rfl, hv⟩, ?_⟩
        refine ⟨q, x, _, _, rfl, rfl, h1, hx, ?_, nxt _ hw⟩
        have := (refOf_len c).1
        rw [nats_len (refOf c)]; omega
      rcases hrs c hm with rfl | rfl | rfl
      · exact put B.r_34 T.t_r_34 rfl
      · exact put B.r_38 T.t_r_38 rfl
      · exact put B.r_60 T.t_r_60 rfl
    · have hw : wr rs c = [c] := by unfold wr; rw [if_neg e]
      refine ⟨_, rfl, .inl ⟨rfl, _, SqL.of h1⟩, _, rfl, q, _, _, rfl, rfl, h1, by omega, nxt [c] hw⟩
  · rintro σ H1 ⟨v, rfl, s1, h1⟩
    rw [nats_len, List.take_length] at h1
    exact ⟨_, rfl, fin H1 q s1 hq h1⟩
end
end Mr
end
section
set_option Elab.async false
set_option linter.all false
set_option maxRecDepth 100000
set_option maxHeartbeats 2000000
namespace Mr
open PySem PySem.Spec PyProof.Rows L2 Hr
open Vaesca (Text Token Reader Mode Home)
theorem RetL.same {H H1 : Hp} {xs : List V} {Q : VK} (f : RetL H xs Q) (s : Same H H1) : RetL H1 xs Q := fun H' q s' n e => f H' q (s.trans s') (s.free n) e
theorem len_writeText (s : Text) : s.length ≤ (Vaesca.writeText s).length := by
  unfold Vaesca.writeText
  induction s with
  | nil => exact Nat.zero_le _
  | cons c s ih =>
    rw [List.flatMap_cons, List.length_append, List.length_cons]
    have : 1 ≤ (Vaesca.writeTextSign c).length := by unfold Vaesca.writeTextSign; split; decide; split; decide; exact Nat.le_refl 1
    omega
theorem len_writeValue (s : Text) : s.length ≤ (Vaesca.writeValue s).length := by
  unfold Vaesca.writeValue
  induction s with
  | nil => exact Nat.zero_le _
  | cons c s ih =>
    rw [List.flatMap_cons, List.length_append, List.length_cons]
    have : 1 ≤ (Vaesca.writeValueSign c).length := by unfold Vaesca.writeValueSign; split; decide; split; decide; exact Nat.le_refl 1
    omega
theorem mil : 1000000 * 6 + 100 ≤ sizeLine := by decide
def spW (C : Cl) (k : Nat) : Sp := fun vs H Q _ => ∃ (a : Addr) (t : Token), vs = [.ref a] ∧ TokH C H (.ref a) t ∧ tokKind t = k ∧ (Vaesca.writeToken t).length ≤ 1000000 ∧ RetL H (nats (Vaesca.writeToken t)) Q
theorem spW_len {C : Cl} {k : Nat} : ∀ vs H Q E, spW C k vs H Q E → vs.length = 1 := by
  rintro vs H Q E ⟨a, t, rfl, _⟩
  rfl
section
variable {P : Program} {w : World} {K : PySem.W.Frag} {mg : Str → Option Value} {base : Heap} {B : Adr}
theorem D_write_run_of_text (T : Tx P w K mg B) : DefOk P w K mg base "write_run_of_text" B.f_write_run_of_text 2 ["token"] (spW (CB B) 0) := by
  have D_with_references := D_with_references (base := base) T
  refine mkDef T.f_write_run_of_text sc_write_run_of_text spW_len fun cdv A0 outer s0 H vs Q E hr h => ?_
  obtain ⟨a, t, rfl, ⟨ρ, a', dx, ls, d, e0, h1, _, h2, h3⟩, hk, hz, fin⟩ := h
  cases e0
  refine ⟨_, (pss_one (ps_ret (pcall D_with_references (hr.mono (by decide)) rfl (pa_cons (pe_fld (pv 0) rfl) (pa_cons (pe_tup (pa_cons (pgc T.c_AMPERSAND) (pa_cons (pgc T.c_LESS) pa_nil))) pa_nil))))), ?_⟩
  cases t with
  | text p s =>
    dsimp only [tRet, tCall, tCons]
    refine k_signs T.t h1 rfl ⟨(by show 2 ≤ sizeLine; decide), fun r hr2 => ?_⟩
    have hz2 : (Vaesca.writeText s).length ≤ 1000000 := hz
    have := len_writeText s
    have := mil
    refine ⟨ls, r, s, [38, 60], rfl, Same.upd hr2 _ _ h2.1, upd_same, by simp, by omega, ?_⟩
    rw [writeText_eq]
    exact RetL.same fin (Same.upd hr2)
  | opened => cases hk
  | closed => cases hk
  | comment => cases hk
  | raw => cases hk
theorem D_write_raw_text (T : Tx P w K mg B) : DefOk P w K mg base "write_raw_text" B.f_write_raw_text 1 ["token"] (spW (CB B) 4) := by
  refine mkDef T.f_write_raw_text sc_write_raw_text spW_len fun cdv A0 outer s0 H vs Q E hr h => ?_
  obtain ⟨a, t, rfl, ⟨ρ, a', dx, ls, d, e0, h1, _, h2, h3⟩, hk, hz, fin⟩ := h
  cases e0
  refine ⟨_, (pss_one (ps_ret (pe_callTy call_list_of rfl T.n_list boot_list (pa_cons (pe_fld (pv 0) rfl) pa_nil)))), ?_⟩
  cases t with
  | raw p s => exact list_new (K := K) (fun Q q => k_signs T.t h1 rfl q) (.inl (SqL.of h2.1)) _ fin
  | opened => cases hk
  | closed => cases hk
  | comment => cases hk
  | text => cases hk
theorem D_write_close_tag (T : Tx P w K mg B) : DefOk P w K mg base "write_close_tag" B.f_write_close_tag 1 ["token"] (spW (CB B) 2) := by
  refine mkDef T.f_write_close_tag sc_write_close_tag spW_len fun cdv A0 outer s0 H vs Q E hr h => ?_
  obtain ⟨a, t, rfl, ⟨ρ, a', dx, ls, d, e0, h1, _, h2, h3⟩, hk, hz, fin⟩ := h
  cases e0
  refine ⟨_, (pss_one (ps_ret (pe_op op_cat (pe_op op_cat (pe_lst (pa_cons (pgc T.c_LESS) (pa_cons (pgc T.c_SLASH) pa_nil))) (pe_fld (pv 0) rfl)) (pe_lst (pa_cons (pgc T.c_GREATER) pa_nil))))), ?_⟩
  cases t with
  | closed p s =>
    have hz2 : ([60, 47] ++ s ++ [62]).length ≤ 1000000 := hz
    have := mil
    simp at hz2
    have fin2 : RetL H ((nats [60, 47] ++ nats s) ++ nats [62]) Q := by rw [← nats_app, ← nats_app]; exact fin
    refine cat_new (NewL.val (cat_new (NewL.val (lst_new (fun Q q => q) (by show 2 ≤ sizeLine; decide))) (fun H1 s1 => old_val (fun Q q => k_signs T.t (s1 _ _ h1) rfl q) (s1 _ _ h2.1)) ?_)) (fun H1 s1 => NewL.val (lst_new (fun Q q => q) (by show 1 ≤ sizeLine; decide))) ?_ _ fin2
    · show 2 + (nats s).length ≤ sizeLine
      rw [nats_len]; omega
    · show (nats [60, 47] ++ nats s).length + 1 ≤ sizeLine
      rw [List.length_append, nats_len s]; show 2 + s.length + 1 ≤ _; omega
  | opened => cases hk
  | raw => cases hk
  | comment => cases hk
  | text => cases hk
theorem D_write_comment (T : Tx P w K mg B) : DefOk P w K mg base "write_comment" B.f_write_comment 1 ["token"] (spW (CB B) 3) := by
  refine mkDef T.f_write_comment sc_write_comment spW_len fun cdv A0 outer s0 H vs Q E hr h => ?_
  obtain ⟨a, t, rfl, ⟨ρ, a', dx, ls, d, e0, h1, _, h2, h3⟩, hk, hz, fin⟩ := h
  cases e0
  refine ⟨_, (pss_one (ps_ret (pe_op op_cat (pe_op op_cat (pe_lst (pa_cons (pgc T.c_LESS) (pa_cons (pgc T.c_EXCLAMATION) (pa_cons (pgc T.c_DASH) (pa_cons (pgc T.c_DASH) pa_nil))))) (pe_fld (pv 0) rfl)) (pe_lst (pa_cons (pgc T.c_DASH) (pa_cons (pgc T.c_DASH) (pa_cons (pgc T.c_GREATER) pa_nil))))))), ?_⟩
  cases t with
  | comment p s =>
    have hz2 : ([60, 33, 45, 45] ++ s ++ [45, 45, 62]).length ≤ 1000000 := hz
    have := mil
    simp at hz2
    have fin2 : RetL H ((nats [60, 33, 45, 45] ++ nats s) ++ nats [45, 45, 62]) Q := by rw [← nats_app, ← nats_app]; exact fin
    refine cat_new (NewL.val (cat_new (NewL.val (lst_new (fun Q q => q) (by show 4 ≤ sizeLine; decide))) (fun H1 s1 => old_val (fun Q q => k_signs T.t (s1 _ _ h1) rfl q) (s1 _ _ h2.1)) ?_)) (fun H1 s1 => NewL.val (lst_new (fun Q q => q) (by show 3 ≤ sizeLine; decide))) ?_ _ fin2
    · show 4 + (nats s).length ≤ sizeLine
      rw [nats_len]; omega
    · show (nats [60, 33, 45, 45] ++ nats s).length + 3 ≤ sizeLine
      rw [List.length_append, nats_len s]; show 4 + s.length + 3 ≤ _; omega
  | opened => cases hk
  | raw => cases hk
  | closed => cases hk
  | text => cases hk
theorem D_write_attribute (T : Tx P w K mg B) : DefOk P w K mg base "write_attribute" B.f_write_attribute 2 ["name", "value"] (fun vs H Q _ => ∃ (n v : Addr) (a : Text × Text), vs = [.ref n, .ref v] ∧ H n = some (.tup (nats a.1)) ∧ H v = some (.lst (nats a.2)) ∧ (Vaesca.writeAttr a).length ≤ 1000000 ∧ RetL H (nats (Vaesca.writeAttr a)) Q) := by
  have D_with_references := D_with_references (base := base) T
  refine mkDef T.f_write_attribute sc_write_attribute ?_ fun cdv A0 outer s0 H vs Q E hr h => ?_
  · rintro vs H Q E ⟨n, v, a, rfl, _⟩
    rfl
  obtain ⟨n, v, ⟨nm, vl⟩, rfl, hn, hv, hz, fin⟩ := h
  refine ⟨_, (pss_one (ps_ret (pe_op op_cat (pe_op op_cat (pe_op op_cat (pe_op op_cat (pe_lst (pa_cons (pgc T.c_SPACE) pa_nil)) (pe_callTy call_list_of rfl T.n_list boot_list (pa_cons (pv 0) pa_nil))) (pe_lst (pa_cons (pgc T.c_EQUALS) (pa_cons (pgc T.c_QUOTE) pa_nil)))) (pcall D_with_references (hr.mono (by decide)) rfl (pa_cons (pv 1) (pa_cons (pe_tup (pa_cons (pgc T.c_AMPERSAND) (pa_cons (pgc T.c_QUOTE) pa_nil))) pa_nil)))) (pe_lst (pa_cons (pgc T.c_QUOTE) pa_nil))))), ?_⟩
  have hz2 : ([32] ++ nm ++ [61, 34] ++ Vaesca.writeValue vl ++ [34]).length ≤ 1000000 := hz
  have := mil
  have := len_writeValue vl
  simp at hz2
  have fin2 : RetL H ((((nats [32] ++ nats nm) ++ nats [61, 34]) ++ nats (Vaesca.writeValue vl)) ++ nats [34]) Q := by rw [← nats_app, ← nats_app, ← nats_app, ← nats_app]; exact fin
  refine cat_new (NewL.val (cat_new (NewL.val (cat_new (NewL.val (cat_new (NewL.val (lst_new (fun Q q => q) (by show 1 ≤ sizeLine; decide))) (fun H1 s1 => NewL.val (list_new (K := K) (fun Q q => ⟨_, rfl, q⟩) (.inr (SqT.of (s1 _ _ hn))))) ?_))
    (fun H1 s1 => NewL.val (lst_new (fun Q q => q) (by show 2 ≤ sizeLine; decide))) ?_)) (fun H1 s1 => NewL.val fun Q2 fin3 => ?_) ?_)) (fun H1 s1 => NewL.val (lst_new (fun Q q => q) (by show 1 ≤ sizeLine; decide))) ?_ _ fin2
  · show 1 + (nats nm).length ≤ _
    rw [nats_len]; omega
  · show (nats [32] ++ nats nm).length + 2 ≤ _
    rw [List.length_append, nats_len nm]; show 1 + nm.length + 2 ≤ _; omega
  · refine ⟨_, rfl, (by show 2 ≤ sizeLine; decide), fun r hr2 => ?_⟩
    refine ⟨v, r, vl, [38, 34], rfl, Same.upd hr2 _ _ (s1 _ _ hv), upd_same, by simp, by omega, ?_⟩
    rw [writeValue_eq]
    exact RetL.same fin3 (Same.upd hr2)
  · rw [nats_len (Vaesca.writeValue vl)]
    show (nats [32] ++ nats nm ++ nats [61, 34]).length + _ ≤ _
    rw [List.length_append, List.length_append, nats_len nm]; show 1 + nm.length + 2 + _ ≤ _; omega
  · show (nats [32] ++ nats nm ++ nats [61, 34] ++ nats (Vaesca.writeValue vl)).length + 1 ≤ _
    rw [List.length_append, List.length_append, List.length_append, nats_len nm, nats_len (Vaesca.writeValue vl)]; show 1 + nm.length + 2 + _ + 1 ≤ _; omega
theorem D_write_open_tag (T : Tx P w K mg B) : DefOk P w K mg base "write_open_tag" B.f_write_open_tag 3 ["token"] (spW (CB B) 1) := by
  have D_write_attribute := D_write_attribute (base := base) T
  refine mkDef T.f_write_open_tag sc_write_open_tag spW_len fun cdv A0 outer s0 H vs Q E hr h => ?_
  obtain ⟨a, t, rfl, ⟨ρ, a', dx, ls, d, e0, h1, _, h2, h3⟩, hk, hz, fin⟩ := h
  cases e0
  refine ⟨_, (pss_cons (ps_set (i := 1) sc_write_open_tag.nd rfl (Or.inl rfl) (pe_op op_cat (pe_lst (pa_cons (pgc T.c_LESS) pa_nil)) (pe_fld (pv 0) rfl))) (pss_cons (ps_lock (ps_for PassesOwn.never rfl (pi_itemsT (pe_fld (pv 0) rfl)) (pg_tup rfl (pgs_cons (pg_name (i := 2) sc_write_open_tag.nd rfl (Or.inl rfl)) (pgs_cons (pg_name (i := 3) sc_write_open_tag.nd rfl (Or.inl rfl)) pgs_nil))) (pss_one (ps_expr (pe_bm PySem.F.plainAttrs_list PySem.F.slot_list_extend PySem.F.type_list_extend mt_extend (pv 1) (pa_cons (pcall D_write_attribute (hr.mono (by decide)) rfl (pa_cons (pv 2) (pa_cons (pv 3) pa_nil))) pa_nil)))))) (pss_cons (ps_if (pt_cmpR op_eq (pe_fld (pv 0) rfl) pe_int (nomark _)) (pss_one (ps_expr (pe_bm PySem.F.plainAttrs_list PySem.F.slot_list_append PySem.F.type_list_append mt_append (pv 1) (pa_cons (pgc T.c_SLASH) pa_nil)))) pss_nil) (pss_cons (ps_expr (pe_bm PySem.F.plainAttrs_list PySem.F.slot_list_append PySem.F.type_list_append mt_append (pv 1) (pa_cons (pgc T.c_GREATER) pa_nil))) (pss_one (ps_ret (pv 1))))))), ?_⟩
  cases t with
  | opened p nm as en =>
    obtain ⟨_, kvs, hd, pk⟩ := h3
    have pk : Paired (AttP H ρ) kvs as := pk
    have hz2 : ([60] ++ nm ++ as.flatMap Vaesca.writeAttr ++ (if en then [47, 62] else [62])).length ≤ 1000000 := hz
    have := mil
    have hlen : nm.length + (as.flatMap Vaesca.writeAttr).length + 2 ≤ 1000000 := by
      rw [List.length_append, List.length_append, List.length_append] at hz2
      have e1 : ([60] : Text).length = 1 := rfl
      have e2 : 1 ≤ (if en then [47, 62] else [62] : Text).length := by cases en <;> decide
      omega
    dsimp only [tSeq]
    show tOp _ _ _ _ _ _
    refine cat_new (NewL.val (lst_new (fun Q q => q) (by show 1 ≤ sizeLine; decide))) (fun H1 s1 => old_val (fun Q q => k_signs T.t (s1 _ _ h1) rfl q) (s1 _ _ h2.1)) ?_ _ fun H1 q s1 hq h1q => ?_
    · show 1 + (nats nm).length ≤ _
      rw [nats_len]; omega
    dsimp only [gName]
    have hd1 : H1 d = some (.dT kvs) := s1 _ _ hd
    refine ⟨d, .dT kvs, hd1, True.intro, fun od => ?_⟩
    have ndq : d ≠ q := ne_of_none hd hq
    have nda : a ≠ d := ne_of h1 hd (by intro z; cases z)
    -- the loop
    have ha2 : upd H1 d (.frz od (.dT kvs)) a = some (.ins (CB B).tok dx (tfs (tokKind (.opened p nm as en)) (tokPlace (.opened p nm as en)) ls d (tokEnded (.opened p nm as en)))) := by rw [upd_ne nda]; exact s1 _ _ h1
    refine ⟨_, rfl, a, B.C_Token, dx, _, _, rfl, ha2, T.t.clT, T.t.t4, rfl, d, od, kvs, rfl, upd_same, ?_⟩
    refine for_itemsT (d := d) (o := od) (kvs := kvs) (fun i σ H' => ∃ v2 v3, σ = [some (.ref a), some (.ref q), v2, v3] ∧ (∀ b o, H b = some o → b ≠ d → H' b = some o) ∧ H' d = some (.frz od (.dT kvs)) ∧ H' q = some (.lst (nats ([60] ++ nm ++ (as.take i).flatMap Vaesca.writeAttr))))
      ⟨none, none, rfl, fun b o e hb => by rw [upd_ne hb]; exact s1 b o e, upd_same, ?_⟩ (fun i σ H' _ z => by obtain ⟨v2, v3, _, _, z, _⟩ := z; exact z) ?_ ?_
    · rw [upd_ne (Ne.symm ndq), h1q]
      show _ = some (HO.lst (nats ([60] ++ nm ++ [])))
      rw [List.append_nil, nats_app]; rfl
    · rintro i k v x U σ H2 hkv ⟨v2, v3, rfl, k2, f2, g2⟩ hx hU
      obtain ⟨⟨an, av⟩, hav, e1, y, e2, e3, _⟩ := paired_get pk hkv
      dsimp only at e1 e2 e3
      subst e1 e2
      rw [keys_kV] at hx
      have hy : H2 y = some (.lst (nats av)) := k2 _ _ e3 (ne_of e3 hd (by intro z; cases z))
      have sU : Same H2 (upd H2 U (.tup [.ref x, .ref y])) := Same.upd hU
      refine ⟨U, _, rfl, SqT.of upd_same, rfl, _, _, rfl, _, _, rfl, rfl, ?_⟩
      have hwa : (Vaesca.writeAttr (an, av)).length + ((as.take i).flatMap Vaesca.writeAttr).length ≤ (as.flatMap Vaesca.writeAttr).length := by
        have e4 : as.flatMap Vaesca.writeAttr = (as.take (i + 1)).flatMap Vaesca.writeAttr ++ (as.drop (i + 1)).flatMap Vaesca.writeAttr := by rw [← List.flatMap_append, List.take_append_drop]
        rw [e4, List.length_append, take_succ hav, List.flatMap_append, List.length_append]
        simp
        omega
      refine ⟨_, rfl, .inl ⟨rfl, _, SqL.of (sU _ _ g2)⟩, _, rfl, _, rfl, ?_⟩
      refine ⟨x, y, (an, av), rfl, sU _ _ hx, sU _ _ hy, by omega, fun H3 z s3 n3 h3z => ?_⟩
      have g3 : H3 q = some (.lst (nats ([60] ++ nm ++ (as.take i).flatMap Vaesca.writeAttr))) := s3 _ _ (sU _ _ g2)
      refine ⟨q, z, _, _, rfl, rfl, g3, h3z, ?_, ?_⟩
      · rw [nats_len, nats_len, List.length_append, List.length_append]
        show 1 + nm.length + _ + _ ≤ _
        omega
      refine ⟨some (.ref x), some (.ref y), rfl, fun b o e hb => ?_, ?_, ?_⟩
      · rw [upd_ne (ne_of_none e hq)]
        exact s3 _ _ (sU _ _ (k2 b o e hb))
      · rw [upd_ne ndq]
        exact s3 _ _ (sU _ _ f2)
      · rw [upd_same, take_succ hav, List.flatMap_append, ← nats_app]
        simp
    · rintro σ H2 ⟨v2, v3, rfl, k2, f2, g2⟩
      rw [Hr.Paired.len pk, List.take_length] at g2
      refine ⟨f2, ?_⟩
      have S2 : Same H (upd H2 d (.dT kvs)) := fun b o e => by
        by_cases z : b = d
        · subst z; rw [upd_same]; rw [hd] at e; exact e
        · rw [upd_ne z]; exact k2 b o e z
      have g3 : upd H2 d (.dT kvs) q = some (.lst (nats ([60] ++ nm ++ as.flatMap Vaesca.writeAttr))) := by rw [upd_ne (Ne.symm ndq)]; exact g2
      generalize upd H2 d (.dT kvs) = H3 at S2 g3
      -- if token.ended == 1
      have hl0 : (nats ([60] ++ nm ++ as.flatMap Vaesca.writeAttr)).length + 2 ≤ sizeLine := by
        rw [nats_len, List.length_append, List.length_append]
        show 1 + nm.length + _ + 2 ≤ _
        omega
      dsimp only [tSeq, tIfS, tTest, tOp, tC]
      refine k_ended T.t (t := .opened p nm as en) (S2 _ _ h1) rfl ⟨rfl, _, rfl, ?_⟩
      cases en with
      | true =>
        refine iteT ?_
        refine ⟨_, rfl, .inl ⟨rfl, _, SqL.of g3⟩, q, _, _, rfl, rfl, g3, by omega, ?_⟩
        refine ⟨_, rfl, .inl ⟨rfl, _, SqL.of upd_same⟩, q, _, _, rfl, rfl, upd_same, by rw [List.length_append]; show _ + 1 < _; omega, ?_⟩
        refine ⟨_, rfl, fin _ q (fun b o e => by rw [upd_ne (ne_of_none e hq), upd_ne (ne_of_none e hq)]; exact S2 b o e) hq ?_⟩
        rw [upd_same]
        show some (HO.lst ((nats ([60] ++ nm ++ as.flatMap Vaesca.writeAttr) ++ nats [47]) ++ nats [62])) = some (HO.lst (nats ([60] ++ nm ++ as.flatMap Vaesca.writeAttr ++ [47, 62])))
        rw [← nats_app, ← nats_app, List.append_assoc _ [47] [62]]
        rfl
      | false =>
        refine iteF ?_
        refine ⟨_, rfl, .inl ⟨rfl, _, SqL.of g3⟩, q, _, _, rfl, rfl, g3, by omega, ?_⟩
        refine ⟨_, rfl, fin _ q (fun b o e => by rw [upd_ne (ne_of_none e hq)]; exact S2 b o e) hq ?_⟩
        rw [upd_same]
        show some (HO.lst (nats ([60] ++ nm ++ as.flatMap Vaesca.writeAttr) ++ nats [62])) = some (HO.lst (nats ([60] ++ nm ++ as.flatMap Vaesca.writeAttr ++ [62])))
        rw [← nats_app]
  | text => cases hk
  | raw => cases hk
  | closed => cases hk
  | comment => cases hk
end
end Mr
end
section
set_option Elab.async false
set_option linter.all false
set_option maxRecDepth 100000
set_option maxHeartbeats 2000000
namespace Mr
open PySem PySem.Spec PyProof.Rows L2 Hr
open Vaesca (Text Token Reader Mode Home)
theorem written_take {ts : List Token} {i : Nat} {t : Token} (h : ts[i]? = some t) : Vaesca.written (ts.take (i + 1)) = Vaesca.written (ts.take i) ++ Vaesca.writeToken t ∧ (Vaesca.written (ts.take i)).length + (Vaesca.writeToken t).length ≤ (Vaesca.written ts).length := by
  have e1 : Vaesca.written (ts.take (i + 1)) = Vaesca.written (ts.take i) ++ Vaesca.writeToken t := by
    unfold Vaesca.written
    rw [take_succ h, List.flatMap_append]
    simp
  refine ⟨e1, ?_⟩
  have e2 : Vaesca.written ts = Vaesca.written (ts.take (i + 1)) ++ Vaesca.written (ts.drop (i + 1)) := by
    unfold Vaesca.written
    rw [← List.flatMap_append, List.take_append_drop]
  rw [e2, e1, List.length_append, List.length_append]
  omega
def TokL (C : Cl) (H : Hp) (l : Addr) (ts : List Token) : Prop := ∃ vs, H l = some (.lst vs) ∧ Paired (TokH C H) vs ts
def zV (l : List Int) : List V := l.map V.int
theorem nats_zV (t : Text) : nats t = zV (t.map Int.ofNat) := by
  unfold nats zV
  rw [List.map_map]
  rfl
section
variable {P : Program} {w : World} {K : PySem.W.Frag} {mg : Str → Option Value} {base : Heap} {B : Adr}
theorem D_write_tokens (T : Tx P w K mg B) : DefOk P w K mg base "write_tokens" B.f_write_tokens 4 ["tokens"] (fun vs H Q _ => ∃ (l : Addr) (ts : List Token), vs = [.ref l] ∧ TokL (CB B) H l ts ∧ (Vaesca.written ts).length ≤ 1000000 ∧ RetL H (nats (Vaesca.written ts)) Q) := by
  refine mkDef T.f_write_tokens sc_write_tokens ?_ fun cdv A0 outer s0 H vs Q E hr h => ?_
  · rintro vs H Q E ⟨l, ts, rfl, _⟩
    rfl
  obtain ⟨l, ts, rfl, ⟨vs, hl, pt⟩, hz, fin⟩ := h
  have := mil
  refine ⟨_, (pss_cons (ps_set (i := 1) sc_write_tokens.nd rfl (Or.inl rfl) (pe_lst pa_nil)) (pss_cons (ps_for PassesOwn.never rfl (pi_list (pv 0)) (pg_name (i := 2) sc_write_tokens.nd rfl (Or.inl rfl)) (pss_cons (ps_set (i := 3) sc_write_tokens.nd rfl (Or.inl rfl) (pe_kget (hu_of hr) (pga T.a_WRITERS) (pe_fld (pv 2) rfl) (fun _ _ => rfl))) (pss_one (ps_expr (pe_bm PySem.F.plainAttrs_list PySem.F.slot_list_extend PySem.F.type_list_extend mt_extend (pv 1) (pa_cons (pe_callV (pv 3) pass0 (pa_cons (pv 2) pa_nil)) pa_nil)))))) (pss_one (ps_ret (pv 1))))), ?_⟩
  dsimp only [tSeq]
  refine ⟨Nat.zero_le _, fun q hq => ?_⟩
  refine ⟨_, rfl, l, rfl, ⟨_, SqL.of (Same.upd hq _ _ hl)⟩, for_list (K := K) (a := l) (xs := vs) (fun i σ H' => ∃ v2 v3, σ = [some (.ref l), some (.ref q), v2, v3] ∧ Same H H' ∧ H' q = some (.lst (nats (Vaesca.written (ts.take i)))))
    ⟨none, none, rfl, Same.upd hq, upd_same⟩ (fun i σ H' _ z => by obtain ⟨_, _, _, s, _⟩ := z; exact SqL.of (s _ _ hl)) ?_ ?_⟩
  · rintro i y σ H1 hi ⟨v2, v3, rfl, s1, h1⟩
    obtain ⟨t, ht, hy⟩ := paired_get pt hi
    obtain ⟨e1, e2⟩ := written_take ht
    have hy1 := hy.same s1
    obtain ⟨ρ, a, dx, ls, d, rfl, ha, hrest⟩ := id hy1
    have go : ∀ (f : Addr) (x : Str) (k : Nat), some (V.ref f) = valV ([(Sum.inl 0, .ref B.f_write_run_of_text), (Sum.inl 1, .ref B.f_write_open_tag), (Sum.inl 2, .ref B.f_write_close_tag), (Sum.inl 3, .ref B.f_write_comment), (Sum.inl 4, .ref B.f_write_raw_text)] : List (Key × V)) (Sum.inl ((tokKind t : Nat) : Int)) → k ≤ 3 → DefOk P w K mg base x f k ["token"] (spW (CB B) (tokKind t)) →
        tSeq (tAsg (tKGet P w K (tC (.ref B.d_WRITERS)) (tFld K (tVar 2) "kind")) (gName 3)) (tDrop (tBM K "list" rExtend (tVar 1) (tCons (tCallV (cxOf CX0 P w K mg base ["tokens", "written", "token", "write"] "write_tokens" (defScope s_write_tokens) B.f_write_tokens cdv A0 outer s0 H E).nox CX0 E0 (tVar 3) (tCons (tVar 2) tNil)) tNil)))
          { nx := fun σ H' => ∃ v2 v3, σ = [some (.ref l), some (.ref q), v2, v3] ∧ Same H H' ∧ H' q = some (.lst (nats (Vaesca.written (ts.take (i + 1))))), rt := Q, ct := fun σ H' => ∃ v2 v3, σ = [some (.ref l), some (.ref q), v2, v3] ∧ Same H H' ∧ H' q = some (.lst (nats (Vaesca.written (ts.take (i + 1))))), bk := tRet (tVar 1) { nx := fun _ H' => Q .non H', rt := Q } }
          [some (.ref l), some (.ref q), some (.ref a), v3] H1 := by
      intro f x k hf hk D
      dsimp only [tSeq, tAsg, tKGet, tC]
      refine k_kind T.t ha rfl ⟨B.d_WRITERS, _, rfl, .inl ⟨_, Sum.inl _, T.d_WRITERS, rfl, hf⟩, ?_⟩
      refine ⟨_, rfl, .inl ⟨rfl, _, SqL.of h1⟩, ?_⟩
      refine callV_of D (hr.mono hk) rfl ⟨_, rfl, a, t, rfl, hy1, rfl, by omega, fun H2 z s2 n2 h2 => ?_⟩
      refine ⟨q, z, _, _, rfl, rfl, s2 _ _ h1, h2, by rw [nats_len, nats_len]; omega, ?_⟩
      refine ⟨some (.ref a), some (.ref f), rfl, fun b o e => by rw [upd_ne (ne_of_none e hq)]; exact s2 _ _ (s1 b o e), ?_⟩
      rw [upd_same, ← nats_app, e1]
    cases t with
    | text => exact go _ _ _ rfl (by decide) (D_write_run_of_text T)
    | opened => exact go _ _ _ rfl (by decide) (D_write_open_tag T)
    | closed => exact go _ _ _ rfl (by decide) (D_write_close_tag T)
    | comment => exact go _ _ _ rfl (by decide) (D_write_comment T)
    | raw => exact go _ _ _ rfl (by decide) (D_write_raw_text T)
  · rintro σ H1 ⟨v2, v3, rfl, s1, h1⟩
    rw [Hr.Paired.len pt, List.take_length] at h1
    exact ⟨_, rfl, fin H1 q s1 hq h1⟩
theorem D_with_length (T : Tx P w K mg B) : DefOk P w K mg base "with_length" B.f_with_length 1 ["signs"] (fun vs H Q _ => ∃ (l : Addr) (xs : List V), vs = [.ref l] ∧ (SqL K H l xs ∨ SqT K H l xs) ∧ xs.length + 1 ≤ sizeLine ∧ RetL H (.int (xs.length : Int) :: xs) Q) := by
  refine mkDef T.f_with_length sc_with_length ?_ fun cdv A0 outer s0 H vs Q E hr h => ?_
  · rintro vs H Q E ⟨l, xs, rfl, _⟩
    rfl
  obtain ⟨l, xs, rfl, hs, hz, fin⟩ := h
  refine ⟨_, (pss_one (ps_ret (pe_op op_cat (pe_lst (pa_cons (pe_callB call_len rfl T.n_len PySem.boot_len (pa_cons (pv 0) pa_nil)) pa_nil)) (pe_callTy call_list_of rfl T.n_list boot_list (pa_cons (pv 0) pa_nil))))), ?_⟩
  have hl : LenV K (.ref l) H xs.length := by
    rcases hs with h | h
    · exact .inl ⟨xs, h, rfl⟩
    · exact .inr ⟨xs, h, rfl⟩
  refine cat_new (xs := [.int (xs.length : Int)]) (ys := xs) (NewL.val (lst_new (fun Q q => ⟨_, rfl, _, _, rfl, hl, q⟩) (by show 1 ≤ sizeLine; decide))) (fun H1 s1 => NewL.val (list_new (K := K) (a := l) (fun Q q => ⟨_, rfl, q⟩) ?_)) (by show 1 + xs.length ≤ _; omega) _ fin
  rcases hs with h | h
  · exact .inl (s1.seq h)
  · refine .inr ?_
    rcases h with (h | ⟨o, h⟩) | h
    · exact .inl (.inl (s1 _ _ h))
    · exact .inl (.inr ⟨o, s1 _ _ h⟩)
    · exact .inr h
theorem done_code (m : Reader) : [25, 26].contains m.mode.code = Vaesca.isDone m := by
  unfold Vaesca.isDone
  cases m.mode with
  | ref x => cases x <;> rfl
  | comment d =>
    simp only [Mode.code]
    split
    · rfl
    · split <;> rfl
  | _ => rfl
theorem D_reads_no_more (T : Tx P w K mg B) : DefOk P w K mg base "reads_no_more" B.f_reads_no_more 1 ["reader"] (fun vs H Q _ => ∃ p ρ m, vs = [.ref p] ∧ Wh (CB B) ρ H p m H ∧ ∀ H', Same H H' → Q (.bl (Vaesca.isDone m)) H') := by
  refine mkDef T.f_reads_no_more sc_reads_no_more ?_ fun cdv A0 outer s0 H vs Q E hr h => ?_
  · rintro vs H Q E ⟨p, ρ, m, rfl, _⟩
    rfl
  obtain ⟨p, ρ, m, rfl, a, k⟩ := h
  refine ⟨_, (pss_one (ps_ret (pe_cmpR op_in_seq (pe_fld (pv 0) rfl) (pe_tup (pa_cons (pgc T.c_ENDED) (pa_cons (pgc T.c_FAULTY) pa_nil))) rfl))), ?_⟩
  obtain ⟨o, ⟨ρ1, A1, R1, F1⟩, ho⟩ := id a
  dsimp only [tRet, tOp]
  refine R1.g_mode T.t rfl ⟨(by show 2 ≤ sizeLine; decide), fun q hq => ⟨q, _, rfl, .inr (SqT.of upd_same), rfl, rfl, ?_⟩⟩
  have k1 := k _ (Same.upd (ob := .tup [.int 25, .int 26]) hq)
  rw [← done_code, ← inV_nat] at k1
  exact k1
theorem D_fault_now (T : Tx P w K mg B) : DefOk P w K mg base "fault_now" B.f_fault_now 1 ["reader"] (fun vs H Q _ => ∃ p ρ m, vs = [.ref p] ∧ Wh (CB B) ρ H p m H ∧ Q (.int (Vaesca.faulty m : Int)) H) := by
  refine mkDef T.f_fault_now sc_fault_now ?_ fun cdv A0 outer s0 H vs Q E hr h => ?_
  · rintro vs H Q E ⟨p, ρ, m, rfl, _⟩
    rfl
  obtain ⟨p, ρ, m, rfl, a, k⟩ := h
  refine ⟨_, (pss_one (ps_ret (pe_ifExp (pt_cmpR op_eq (pe_fld (pv 0) rfl) (pgc T.c_FAULTY) (nomark _)) pe_int pe_int))), ?_⟩
  obtain ⟨o, ⟨ρ1, A1, R1, F1⟩, ho⟩ := id a
  dsimp only [tRet, tIf, tTest, tOp]
  refine R1.g_mode T.t rfl ⟨rfl, _, rfl, ?_⟩
  rw [fault_code]
  unfold Vaesca.faulty at k
  refine ite2 (fun e => ?_) fun e => ?_
  · have e' := of_decide_eq_true e
    rw [e'] at k
    exact k
  · have e' : (m.mode == Mode.fault) = false := by
      rw [Mi.beq_fault]
      simpa using e
    rw [e'] at k
    exact k
theorem blk_refusal_of : BlkOk ["signs", "read_before", "number"] (defScope s_refusal_of) { kind := .function, names := [(".0", .local), ("number", .local), ("is_sign", .globalImplicit)], isGenerator := false, isCoroutine := false } [("number", 2)] :=
  ⟨rfl, by decide +kernel, by decide +kernel, by decide +kernel, by decide +kernel⟩
def refusal (zs : List Int) (n : Nat) : Int := if zs.all Vaesca.isSign = true then (if 16384 < n + zs.length then -3 else 0) else -1
theorem D_refusal_of (T : Tx P w K mg B) : DefOk P w K mg base "refusal_of" B.f_refusal_of 2 ["signs", "read_before"] (fun vs H Q _ => ∃ (l : Addr) (zs : List Int) (n : Nat), vs = [.ref l, .int (n : Int)] ∧ H l = some (.lst (zV zs)) ∧ zs.length ≤ sizeLine ∧ ∀ H', Same H H' → Q (.int (refusal zs n)) H') := by
  have D_is_sign := D_is_sign (base := base) T
  refine mkDef T.f_refusal_of sc_refusal_of ?_ fun cdv A0 outer s0 H vs Q E hr h => ?_
  · rintro vs H Q E ⟨l, zs, n, rfl, _⟩
    rfl
  obtain ⟨l, zs, n, rfl, hl, hz, k⟩ := h
  refine ⟨_, (pss_cons (ps_if (pt_not (pt_val (pe_callB (cr_all rfl) rfl T.n_all boot_all (pa_cons (pe_lc (own := [("number", 2)]) rfl sc_refusal_of.nd (pi_list (pv 0)) blk_refusal_of (fun _ _ _ _ _ => pg_name (i := 2) sc_refusal_of.nd rfl (Or.inl rfl)) (fun _ _ _ _ _ => pts_nil) (fun _ _ _ _ _ => (pcall D_is_sign (hr.mono (by decide)) rfl (pa_cons (pv 2) pa_nil)))) pa_nil)))) (pss_one (ps_ret (pgc T.c_NO_SIGN))) pss_nil) (pss_cons (ps_if (pt_cmpR op_gt (pe_op op_add (pv 1) (pe_callB call_len rfl T.n_len PySem.boot_len (pa_cons (pv 0) pa_nil))) (pgc T.c_MOST_SIGNS) (nomark _)) (pss_one (ps_ret (pgc T.c_TOO_MANY_SIGNS))) pss_nil) (pss_one (ps_ret (pgc T.c_NOT_REFUSED))))), ?_⟩
  dsimp only [tSeq]
  refine ⟨_, rfl, l, rfl, ⟨_, SqL.of hl⟩, fun D hD => ?_⟩
  refine lc_list (K := K) (a := l) (xs := zV zs) (fun i H' => Same H H' ∧ H' D = some (.lst ((zs.take i).map fun z => V.bl (Vaesca.isSign z)))) ⟨Same.upd hD, upd_same⟩ (fun i H' _ z => SqL.of (z.1 _ _ hl)) ?_ ?_
  · rintro i y H1 hi ⟨s1, h1⟩
    unfold zV at hi
    rw [List.getElem?_map] at hi
    cases e : zs[i]? with
    | none => rw [e] at hi; cases hi
    | some z =>
      rw [e] at hi
      obtain rfl := Option.some.inj hi
      refine ⟨rfl, ?_⟩
      dsimp only [tYes]
      rw [if_pos rfl]
      refine ⟨_, rfl, z, rfl, ?_⟩
      refine ⟨_, h1, ?_, fun b o e2 => by rw [upd_ne (ne_of_none e2 hD)]; exact s1 b o e2, ?_⟩
      · have hi2 : i < zs.length := (List.getElem?_eq_some_iff.mp e).1
        rw [List.length_map, List.length_take]; omega
      · rw [upd_same, take_succ e, List.map_append]; rfl
  · rintro H1 ⟨s1, h1⟩
    rw [show (zV zs).length = zs.length from List.length_map _, List.take_length] at h1
    refine ⟨D, zs.map Vaesca.isSign, rfl, ?_, ?_⟩
    · rw [List.map_map]; exact SqL.of h1
    refine ⟨_, rfl, ?_⟩
    have k1 := k _ s1
    unfold refusal at k1
    rw [List.all_map]
    have ea : (zs.all (id ∘ Vaesca.isSign)) = zs.all Vaesca.isSign := rfl
    rw [ea]
    cases e : zs.all Vaesca.isSign with
    | false =>
      rw [e, if_neg Bool.false_ne_true] at k1
      exact iteT k1
    | true =>
      rw [e, if_pos rfl] at k1
      refine iteF ?_
      refine ⟨_, rfl, _, rfl, _, _, rfl, .inl ⟨_, SqL.of (s1 _ _ hl), rfl⟩, _, _, rfl, rfl, _, _, rfl, rfl, _, rfl, ?_⟩
      have el : (zV zs).length = zs.length := List.length_map _
      rw [el]
      by_cases g : 16384 < n + zs.length
      · rw [if_pos g] at k1
        rw [decide_eq_true (show (16384 : Int) < (n : Int) + (zs.length : Int) by omega)]
        exact iteT k1
      · rw [if_neg g] at k1
        rw [decide_eq_false (show ¬ (16384 : Int) < (n : Int) + (zs.length : Int) by omega)]
        exact iteF k1
end
end Mr
end
section
set_option Elab.async false
set_option linter.all false
set_option maxRecDepth 100000
set_option maxHeartbeats 2000000
namespace Mr
open PySem PySem.Spec PyProof.Rows L2 Hr
open Vaesca (Text Token Reader Mode Home)
def spC (C : Cl) (n : Nat) (rel : List V → Hp → Lab → Reader → Reader → List Int → Prop) : Sp := fun vs H Q _ => ∃ p as ρ m m' ans, vs = .ref p :: as ∧ as.length = n ∧ Wh C ρ H p m H ∧ rel as H ρ m m' ans ∧
  ∀ H' q, Wh C ρ H p m' H' → H' q = some (.lst (zV ans)) → Q (.ref q) H'
theorem spC_len {C : Cl} {n : Nat} {rel : List V → Hp → Lab → Reader → Reader → List Int → Prop} : ∀ vs H Q E, spC C n rel vs H Q E → vs.length = n + 1 := by
  rintro vs H Q E ⟨p, as, ρ, m, m', ans, rfl, h, _⟩
  rw [List.length_cons, h]
theorem _root_.Hr.Wh.same {C : Cl} {ρ : Lab} {H0 H H' : Hp} {p : Addr} {m : Reader} (a : Wh C ρ H0 p m H) (s : Same H H') : Wh C ρ H0 p m H' := by
  obtain ⟨o, a, ho⟩ := a
  exact ⟨o, a.same s, ho⟩
theorem _root_.Hr.Wh.here {C : Cl} {ρ0 : Lab} {H0 H : Hp} {p : Addr} {m : Reader} (a : Wh C ρ0 H0 p m H) : ∃ ρ, Wh C ρ H p m H ∧ Fr ρ0 H0 ρ H := by
  obtain ⟨o, a, ho⟩ := a
  obtain ⟨ρ, a, F⟩ := a.here
  exact ⟨ρ, ⟨o, a, ho⟩, F⟩
def spLook (C : Cl) (n : Nat) (rel : List V → Reader → List Int → Prop) : Sp := spC C n fun as _ _ m m' ans => m' = m ∧ rel as m ans
section
variable {P : Program} {w : World} {K : PySem.W.Frag} {mg : Str → Option Value} {base : Heap} {B : Adr}
theorem D_begin (T : Tx P w K mg B) : DefOk P w K mg base "begin" B.f_begin 2 ["reader"] (spC (CB B) 0 fun as _ _ m m' ans => as = [] ∧ m' = Vaesca.fresh ∧ ans = [0]) := by
  have D_Reader_renew := D_Reader_renew (base := base) T
  refine mkDef T.f_begin sc_begin spC_len fun cdv A0 outer s0 H vs Q E hr h => ?_
  obtain ⟨p, as, ρ, m, m', ans, rfl, _, a, ⟨rfl, rfl, rfl⟩, fin⟩ := h
  refine ⟨_, (pss_cons (ps_expr (pmeth0 (pv 0) T.cl_Reader D_Reader_renew (hr.mono (by decide)))) (pss_one (ps_ret (pe_lst (pa_cons pe_int pa_nil))))), ?_⟩
  obtain ⟨o, ⟨ρ1, A1, R1, F1⟩, ho⟩ := id a
  refine ⟨_, rfl, p, A1.dx, _, rfl, R1.ins, rfl, p, A1.dx, ρ1, _, rfl, R1.ins, R1.lab, .inr ⟨m, A1, rfl⟩, fun H1 a1 => ?_⟩
  dsimp only [tSeq, tRet]
  refine lst_new (xs := zV [0]) (fun Q q => q) (by show 1 ≤ sizeLine; decide) _ fun H2 q s2 _ e2 => ?_
  exact fin H2 q ((a1.trans F1).same s2) e2
def endM (m : Reader) : Reader × List Int := if Vaesca.isDone m then (m, [-2]) else (Mi.finish m, [(Vaesca.faulty (Mi.finish m) : Int)])
theorem D_end (T : Tx P w K mg B) : DefOk P w K mg base "end" B.f_end 7 ["reader"] (spC (CB B) 0 fun as _ _ m m' ans => as = [] ∧ (Vaesca.isDone m = false → Sm m) ∧ (m', ans) = endM m) := by
  have D_reads_no_more := D_reads_no_more (base := base) T
  have D_read_end := D_read_end (base := base) T
  have D_fault_now := D_fault_now (base := base) T
  refine mkDef T.f_end sc_end spC_len fun cdv A0 outer s0 H vs Q E hr h => ?_
  obtain ⟨p, as, ρ, m, m', ans, rfl, _, a, ⟨rfl, S, he⟩, fin⟩ := h
  refine ⟨_, (pss_cons (ps_if (pt_val (pcall D_reads_no_more (hr.mono (by decide)) rfl (pa_cons (pv 0) pa_nil))) (pss_one (ps_ret (pe_lst (pa_cons (pgc T.c_NOTHING_READ_ANY_MORE) pa_nil)))) pss_nil) (pss_cons (ps_expr (pcall D_read_end (hr.mono (by decide)) rfl (pa_cons (pv 0) pa_nil))) (pss_one (ps_ret (pe_lst (pa_cons (pcall D_fault_now (hr.mono (by decide)) rfl (pa_cons (pv 0) pa_nil)) pa_nil)))))), ?_⟩
  obtain ⟨ρ1, a1, F1⟩ := a.here
  unfold endM at he
  refine ⟨_, rfl, p, ρ1, m, rfl, a1, fun H1 s1 => ⟨_, rfl, ?_⟩⟩
  refine ite2 (fun e => ?_) fun e => ?_
  · rw [if_pos e] at he
    cases he
    refine lst_new (xs := zV [-2]) (fun Q q => q) (by show 1 ≤ sizeLine; decide) _ fun H2 q s2 _ e2 => ?_
    exact fin H2 q (a.same (s1.trans s2)) e2
  · rw [if_neg e] at he
    cases he
    dsimp only [tNext, tSeq]
    refine (a.same s1).unit (S (by simpa using e)) fun H2 a2 => ?_
    obtain ⟨ρ2, a3, F2⟩ := a2.here
    dsimp only [tSeq, tRet]
    refine lst_new (xs := zV [_]) (fun Q q => ⟨_, rfl, p, ρ2, _, rfl, a3, q⟩) (by show 1 ≤ sizeLine; decide) _ fun H3 q s3 _ e3 => ?_
    exact fin H3 q (a2.same s3) e3
theorem D_fault (T : Tx P w K mg B) : DefOk P w K mg base "fault" B.f_fault 1 ["reader"] (spLook (CB B) 0 fun as m ans => as = [] ∧ ans = [(wk m : Int), (wp m : Int)]) := by
  refine mkDef T.f_fault sc_fault spC_len fun cdv A0 outer s0 H vs Q E hr h => ?_
  obtain ⟨p, as, ρ, _, m, ans, rfl, _, a, ⟨rfl, rfl, rfl⟩, fin⟩ := h
  refine ⟨_, (pss_one (ps_ret (pe_lst (pa_cons (pe_fld (pv 0) rfl) (pa_cons (pe_fld (pv 0) rfl) pa_nil))))), ?_⟩
  obtain ⟨o, ⟨ρ1, A1, R1, F1⟩, ho⟩ := id a
  refine lst_new (xs := zV [_, _]) (fun Q q => ?_) (by show 2 ≤ sizeLine; decide) _ fun H2 q s2 _ e2 => fin H2 q (a.same s2) e2
  dsimp only [tCons]
  exact R1.g_kind T.t rfl (R1.g_place T.t rfl q)
theorem D_tokens (T : Tx P w K mg B) : DefOk P w K mg base "tokens" B.f_tokens 1 ["reader"] (spLook (CB B) 0 fun as m ans => as = [] ∧ ans = [(m.tokens.length : Int)]) := by
  refine mkDef T.f_tokens sc_tokens spC_len fun cdv A0 outer s0 H vs Q E hr h => ?_
  obtain ⟨p, as, ρ, _, m, ans, rfl, _, a, ⟨rfl, rfl, rfl⟩, fin⟩ := h
  refine ⟨_, (pss_one (ps_ret (pe_lst (pa_cons (pe_callB call_len rfl T.n_len PySem.boot_len (pa_cons (pe_fld (pv 0) rfl) pa_nil)) pa_nil)))), ?_⟩
  obtain ⟨o, ⟨ρ1, A1, R1, F1⟩, ho⟩ := id a
  obtain ⟨lt, ws, ht, pt⟩ := id R1.tok
  refine lst_new (xs := zV [_]) (fun Q q => ?_) (by show 1 ≤ sizeLine; decide) _ fun H2 q s2 _ e2 => fin H2 q (a.same s2) e2
  dsimp only [tCons, tCB]
  refine R1.g_tok T.t rfl ⟨_, ws.length, rfl, .inl ⟨_, SqL.of ht, rfl⟩, ?_⟩
  rw [Hr.Paired.len pt]
  exact q
theorem D_written (T : Tx P w K mg B) : DefOk P w K mg base "written" B.f_written 5 ["reader"] (spLook (CB B) 0 fun as m ans => as = [] ∧ (Vaesca.written m.tokens).length ≤ 1000000 ∧ ans = (Vaesca.counted (Vaesca.written m.tokens)).map Int.ofNat) := by
  have D_write_tokens := D_write_tokens (base := base) T
  have D_with_length := D_with_length (base := base) T
  refine mkDef T.f_written sc_written spC_len fun cdv A0 outer s0 H vs Q E hr h => ?_
  obtain ⟨p, as, ρ, _, m, ans, rfl, _, a, ⟨rfl, rfl, hz, rfl⟩, fin⟩ := h
  refine ⟨_, (pss_one (ps_ret (pcall D_with_length (hr.mono (by decide)) rfl (pa_cons (pcall D_write_tokens (hr.mono (by decide)) rfl (pa_cons (pe_fld (pv 0) rfl) pa_nil)) pa_nil)))), ?_⟩
  obtain ⟨o, ⟨ρ1, A1, R1, F1⟩, ho⟩ := id a
  obtain ⟨lt, ws, ht, pt⟩ := id R1.tok
  have := mil
  dsimp only [tRet, tCall, tCons]
  refine R1.g_tok T.t rfl ⟨A1.tok, m.tokens, rfl, ⟨ws, ht, Paired.mapP pt fun _ _ z => ⟨ρ1, z⟩⟩, hz, fun H1 q1 s1 n1 e1 => ?_⟩
  refine ⟨q1, _, rfl, .inl (SqL.of e1), by rw [nats_len]; omega, fun H2 q2 s2 n2 e2 => fin H2 q2 (a.same (s1.trans s2)) ?_⟩
  rw [e2, nats_len, ← nats_zV]
  rfl
theorem D_marks (T : Tx P w K mg B) : DefOk P w K mg base "marks" B.f_marks 1 ["reader"] (spLook (CB B) 0 fun as m ans => as = [] ∧ m.marks.length ≤ 1000000 ∧ ans = (m.marks.length :: m.marks.flatMap fun q => [q.1, q.2]).map Int.ofNat) := by
  refine mkDef T.f_marks sc_marks spC_len fun cdv A0 outer s0 H vs Q E hr h => ?_
  obtain ⟨p, as, ρ, _, m, ans, rfl, _, a, ⟨rfl, rfl, hz, rfl⟩, fin⟩ := h
  refine ⟨_, (pss_cons (ps_set (i := 1) sc_marks.nd rfl (Or.inl rfl) (pe_lst (pa_cons (pe_callB call_len rfl T.n_len PySem.boot_len (pa_cons (pe_fld (pv 0) rfl) pa_nil)) pa_nil))) (pss_cons (ps_for PassesOwn.never rfl (pi_list (pe_fld (pv 0) rfl)) (pg_tup rfl (pgs_cons (pg_name (i := 2) sc_marks.nd rfl (Or.inl rfl)) (pgs_cons (pg_name (i := 3) sc_marks.nd rfl (Or.inl rfl)) pgs_nil))) (pss_one (ps_expr (pe_bm PySem.F.plainAttrs_list PySem.F.slot_list_extend PySem.F.type_list_extend mt_extend (pv 1) (pa_cons (pe_lst (pa_cons (pv 2) (pa_cons (pv 3) pa_nil))) pa_nil))))) (pss_one (ps_ret (pv 1))))), ?_⟩
  obtain ⟨o, ⟨ρ1, A1, R1, F1⟩, ho⟩ := id a
  obtain ⟨lm, ws, hm, pm⟩ := id R1.mar
  have := mil
  have hlen : ∀ l : List (Nat × Nat), (l.flatMap fun q => [q.1, q.2]).length = 2 * l.length := by
    intro l
    induction l with
    | nil => rfl
    | cons x l ih => rw [List.flatMap_cons, List.length_append, ih, List.length_cons]; show 2 + 2 * l.length = 2 * (l.length + 1); omega
  dsimp only [tSeq]
  refine lst_new (xs := nats [m.marks.length]) (fun Q q => ?_) (by show 1 ≤ sizeLine; decide) _ fun H1 q s1 hq e1 => ?_
  · dsimp only [tCons, tCB]
    refine R1.g_mar T.t rfl ⟨_, ws.length, rfl, .inl ⟨_, SqL.of hm, rfl⟩, ?_⟩
    rw [Hr.Paired.len pm]
    exact q
  dsimp only [gName]
  refine ⟨_, rfl, p, B.C_Reader, A1.dx, _, _, rfl, s1 _ _ R1.ins, T.t.clR, T.t.r12, rfl, A1.mar, rfl, ⟨_, SqL.of (s1 _ _ hm)⟩, ?_⟩
  refine for_list (K := K) (a := A1.mar) (xs := ws) (fun i σ H' => ∃ v2 v3, σ = [some (.ref p), some (.ref q), v2, v3] ∧ Same H H' ∧ H' q = some (.lst (nats (m.marks.length :: (m.marks.take i).flatMap fun q => [q.1, q.2]))))
    ⟨none, none, rfl, s1, e1⟩ (fun i σ H' _ z => by obtain ⟨_, _, _, s, _⟩ := z; exact SqL.of (s _ _ hm)) ?_ ?_
  · rintro i y σ H2 hi ⟨v2, v3, rfl, s2, e2⟩
    obtain ⟨⟨mk, sp⟩, hmk, x, rfl, hx, _⟩ := paired_get pm hi
    refine ⟨x, _, rfl, SqT.of (s2 _ _ hx), rfl, _, _, rfl, _, _, rfl, rfl, ?_⟩
    refine ⟨_, rfl, .inl ⟨rfl, _, SqL.of e2⟩, _, rfl, _, rfl, (by show 2 ≤ sizeLine; decide), fun z hz2 => ?_⟩
    have s3 := Same.upd (ob := .lst [.int (mk : Int), .int (sp : Int)]) hz2
    refine ⟨q, z, _, _, rfl, rfl, s3 _ _ e2, upd_same, ?_, ?_⟩
    · rw [nats_len, List.length_cons, hlen, List.length_take]
      show _ + 2 ≤ _
      omega
    refine ⟨_, _, rfl, fun b ob e => by rw [upd_ne (ne_of_none e hq)]; exact s3 _ _ (s2 b ob e), ?_⟩
    rw [upd_same, take_succ hmk, List.flatMap_append, ← List.cons_append, nats_app]
    rfl
  · rintro σ H2 ⟨v2, v3, rfl, s2, e2⟩
    rw [Hr.Paired.len pm, List.take_length] at e2
    refine ⟨_, rfl, fin H2 q (a.same s2) ?_⟩
    rw [e2, nats_zV]
theorem D_state (T : Tx P w K mg B) : DefOk P w K mg base "state" B.f_state 2 ["reader"] (spLook (CB B) 0 fun as m ans => as = [] ∧ m.tag.length + m.attr.length + m.body.length ≤ 1000000 ∧ ans = (Vaesca.shownState m).map Int.ofNat) := by
  have D_with_length := D_with_length (base := base) T
  refine mkDef T.f_state sc_state spC_len fun cdv A0 outer s0 H vs Q E hr h => ?_
  obtain ⟨p, as, ρ, _, m, ans, rfl, _, a, ⟨rfl, rfl, hz, rfl⟩, fin⟩ := h
  refine ⟨_, (pss_cons (ps_set (i := 1) sc_state.nd rfl (Or.inl rfl) (pe_lst (pa_cons (pe_fld (pv 0) rfl) (pa_cons (pe_fld (pv 0) rfl) (pa_cons (pe_callB call_lenT rfl T.n_len PySem.boot_len (pa_cons (pe_fld (pv 0) rfl) pa_nil)) pa_nil))))) (pss_one (ps_ret (pe_op op_cat (pe_op op_cat (pe_op op_cat (pv 1) (pcall D_with_length (hr.mono (by decide)) rfl (pa_cons (pe_fld (pv 0) rfl) pa_nil))) (pcall D_with_length (hr.mono (by decide)) rfl (pa_cons (pe_fld (pv 0) rfl) pa_nil))) (pcall D_with_length (hr.mono (by decide)) rfl (pa_cons (pe_fld (pv 0) rfl) pa_nil)))))), ?_⟩
  obtain ⟨o, ⟨ρ1, A1, R1, F1⟩, ho⟩ := id a
  obtain ⟨la, kvs, hk, pk⟩ := id (R1.att rfl)
  have := mil
  dsimp only [tSeq]
  refine lst_new (xs := nats [m.mode.code, m.count, m.attrs.length]) (fun Q q => ?_) (by show 3 ≤ sizeLine; decide) _ fun H1 q1 s1 n1 e1 => ?_
  · dsimp only [tCons]
    refine R1.g_mode T.t rfl (R1.g_count T.t rfl ?_)
    dsimp only [tCB, tCons]
    refine R1.g_att T.t rfl ⟨A1.att, kvs, rfl, hk, ?_⟩
    rw [Hr.Paired.len pk]
    exact q
  dsimp only [gName]
  have rk : ∀ {H2}, Same H1 H2 → ∃ ρ2, RAt (CB B) H2 ρ2 A1 p m o true true := fun {H2} s2 => by
    obtain ⟨ρ2, S, _⟩ := Stay.same (ρ := ρ1) (s1.trans s2)
    exact ⟨ρ2, R1.keep S fun _ _ => trivial⟩
  have fin2 : RetL H1 (((nats [m.mode.code, m.count, m.attrs.length] ++ nats (m.tag.length :: m.tag)) ++ nats (m.attr.length :: m.attr)) ++ nats (m.body.length :: m.body)) Q := by
    intro H2 q s2 n2 e2
    refine fin H2 q (a.same (s1.trans s2)) ?_
    rw [e2, ← nats_app, ← nats_app, ← nats_app, nats_zV]
    rfl
  have l0 : (nats [m.mode.code, m.count, m.attrs.length]).length = 3 := rfl
  have lc : ∀ t : Text, (nats (t.length :: t)).length = t.length + 1 := fun t => nats_len _
  refine cat_new (NewL.val (cat_new (NewL.val (cat_new (old_val (fun Q q => ⟨_, rfl, q⟩) e1) (fun H2 s2 => NewL.val fun Q2 f2 => ?_) ?_)) (fun H2 s2 => NewL.val fun Q2 f2 => ?_) ?_)) (fun H2 s2 => NewL.val fun Q2 f2 => ?_) ?_ _ fin2
  · obtain ⟨ρ2, R2⟩ := rk s2
    dsimp only [tCall, tCons]
    refine R2.g_tag T.t rfl ⟨A1.tag, _, rfl, .inl (SqL.of R2.tag.1), by rw [nats_len]; omega, ?_⟩
    rw [nats_len]
    exact f2
  · rw [l0, lc]; omega
  · obtain ⟨ρ2, R2⟩ := rk s2
    dsimp only [tCall, tCons]
    refine R2.g_nam T.t rfl ⟨A1.nam, _, rfl, .inl (SqL.of R2.nam.1), by rw [nats_len]; omega, ?_⟩
    rw [nats_len]
    exact f2
  · rw [List.length_append, l0, lc, lc]; omega
  · obtain ⟨ρ2, R2⟩ := rk s2
    dsimp only [tCall, tCons]
    refine R2.g_bod T.t rfl ⟨A1.bod, _, rfl, .inl (SqL.of R2.bod.1), by rw [nats_len]; omega, ?_⟩
    rw [nats_len]
    exact f2
  · rw [List.length_append, List.length_append, l0, lc, lc, lc]; omega
end
end Mr
end
section
set_option Elab.async false
set_option linter.all false
set_option maxRecDepth 100000
set_option maxHeartbeats 2000000
namespace Mr
open PySem PySem.Spec PyProof.Rows L2 Hr
open Vaesca (Text Token Reader Mode Home)
theorem zV_signs : ∀ {zs : List Int}, zs.all Vaesca.isSign = true → zV zs = nats (Vaesca.signsOf zs)
  | [], _ => rfl
  | z :: zs, h => by
    rw [List.all_cons, Bool.and_eq_true] at h
    have h1 : 0 ≤ z := by
      have := h.1
      unfold Vaesca.isSign at this
      simp at this
      exact this.1
    show V.int z :: zV zs = V.int ((z.toNat : Nat) : Int) :: nats (Vaesca.signsOf zs)
    rw [zV_signs h.2, Int.toNat_of_nonneg h1]
theorem refusal_zero {zs : List Int} {n : Nat} (h : refusal zs n = 0) : zs.all Vaesca.isSign = true ∧ n + zs.length ≤ 16384 := by
  unfold refusal at h
  split at h
  · rename_i q
    refine ⟨q, ?_⟩
    split at h
    · cases h
    · omega
  · cases h
def feedM (m : Reader) (zs : List Int) : Reader × List Int :=
  if Vaesca.isDone m then (m, [-2]) else if refusal zs m.count = 0 then (Mi.signs m (Vaesca.signsOf zs), [(Vaesca.faulty (Mi.signs m (Vaesca.signsOf zs)) : Int)]) else (m, [refusal zs m.count])
def wholeM (m : Reader) (zs : List Int) : Reader × List Int :=
  if refusal zs 0 = 0 then
    (if (Mi.signs Vaesca.fresh (Vaesca.signsOf zs)).mode = .fault then (Mi.signs Vaesca.fresh (Vaesca.signsOf zs), [(Vaesca.faulty (Mi.signs Vaesca.fresh (Vaesca.signsOf zs)) : Int)])
     else (Mi.finish (Mi.signs Vaesca.fresh (Vaesca.signsOf zs)), [(Vaesca.faulty (Mi.finish (Mi.signs Vaesca.fresh (Vaesca.signsOf zs))) : Int)]))
  else (m, [refusal zs 0])
def partsOf (n : Text) (as : List (Text × Text)) (e : Bool) : List Nat := (if e then 1 else 0) :: (Vaesca.counted n ++ (as.length :: as.flatMap fun a => Vaesca.counted a.1 ++ Vaesca.counted a.2))
section
variable {P : Program} {w : World} {K : PySem.W.Frag} {mg : Str → Option Value} {base : Heap} {B : Adr}
theorem if_refused {zs : List Int} {n : Nat} {σ : L2.St} {H : Hp} {D : Ends} {t u : TS} {i : Nat} (h1 : ¬ refusal zs n = 0 → t D σ H) (h2 : refusal zs n = 0 → u D σ H) (hc : σ[i]? = some (some (.int (refusal zs n)))) : tIfS (tTest (tOp rNe (tVar i) (tC (.int 0)))) t u D σ H := by
  refine ⟨_, hc, rfl, _, rfl, ?_⟩
  by_cases e : refusal zs n = 0
  · rw [e, show (!decide (V.int 0 = V.int 0)) = false from rfl]
    exact iteF (h2 e)
  · rw [decide_eq_false (fun z => e (by injection z))]
    exact iteT (h1 e)
theorem D_feed (T : Tx P w K mg B) : DefOk P w K mg base "feed" B.f_feed 9 ["reader", "signs"] (spC (CB B) 1 fun as H ρ m m' ans => ∃ (l : Addr) (zs : List Int), as = [.ref l] ∧ H l = some (.lst (zV zs)) ∧ ρ l = 0 ∧ zs.length ≤ sizeLine ∧
    (Vaesca.isDone m = false → refusal zs m.count = 0 → Good m (Vaesca.signsOf zs)) ∧ (m', ans) = feedM m zs) := by
  have D_reads_no_more := D_reads_no_more (base := base) T
  have D_refusal_of := D_refusal_of (base := base) T
  have D_read_signs := D_read_signs (base := base) T
  have D_fault_now := D_fault_now (base := base) T
  refine mkDef T.f_feed sc_feed spC_len fun cdv A0 outer s0 H vs Q E hr h => ?_
  obtain ⟨p, as, ρ, m, m', ans, rfl, _, a, ⟨l, zs, rfl, hl, hρ, hz, gd, he⟩, fin⟩ := h
  refine ⟨_, (pss_cons (ps_if (pt_val (pcall D_reads_no_more (hr.mono (by decide)) rfl (pa_cons (pv 0) pa_nil))) (pss_one (ps_ret (pe_lst (pa_cons (pgc T.c_NOTHING_READ_ANY_MORE) pa_nil)))) pss_nil) (pss_cons (ps_set (i := 2) sc_feed.nd rfl (Or.inl rfl) (pcall D_refusal_of (hr.mono (by decide)) rfl (pa_cons (pv 1) (pa_cons (pe_fld (pv 0) rfl) pa_nil)))) (pss_cons (ps_if (pt_cmpR op_ne (pv 2) (pgc T.c_NOT_REFUSED) (nomark _)) (pss_one (ps_ret (pe_lst (pa_cons (pv 2) pa_nil)))) pss_nil) (pss_cons (ps_expr (pcall D_read_signs (hr.mono (by decide)) rfl (pa_cons (pv 0) (pa_cons (pv 1) pa_nil)))) (pss_one (ps_ret (pe_lst (pa_cons (pcall D_fault_now (hr.mono (by decide)) rfl (pa_cons (pv 0) pa_nil)) pa_nil)))))))), ?_⟩
  obtain ⟨ρ1, a1, F1⟩ := a.here
  unfold feedM at he
  dsimp only [tSeq]
  refine ⟨_, rfl, p, ρ1, m, rfl, a1, fun H1 s1 => ⟨_, rfl, ?_⟩⟩
  refine ite2 (fun e => ?_) fun e => ?_
  · rw [if_pos e] at he
    cases he
    refine lst_new (xs := zV [-2]) (fun Q q => q) (by show 1 ≤ sizeLine; decide) _ fun H2 q s2 _ e2 => ?_
    exact fin H2 q (a.same (s1.trans s2)) e2
  rw [if_neg e] at he
  have a2 := a.same s1
  obtain ⟨o, ⟨ρ2, A2, R2, F2⟩, ho⟩ := id a2
  dsimp only [tNext, tSeq]
  refine ⟨_, rfl, ?_⟩
  dsimp only [tCons]
  refine R2.g_count T.t rfl ⟨l, zs, m.count, rfl, s1 _ _ hl, hz, fun H3 s3 => ?_⟩
  have a3 := a2.same s3
  dsimp only [gName, tSeq]
  refine if_refused (zs := zs) (n := m.count) (fun e2 => ?_) (fun e2 => ?_) rfl
  · rw [if_neg e2] at he
    cases he
    refine lst_new (xs := zV [_]) (fun Q q => ⟨_, rfl, q⟩) (by show 1 ≤ sizeLine; decide) _ fun H4 q s4 _ e4 => ?_
    exact fin H4 q (a3.same s4) e4
  · rw [if_pos e2] at he
    cases he
    obtain ⟨hs, hn⟩ := refusal_zero e2
    obtain ⟨ρ3, a4, F4⟩ := a3.here
    obtain ⟨g1, g2⟩ := F4 l _ hl hρ
    dsimp only [tNext, tSeq]
    refine ⟨_, rfl, _, rfl, p, l, ρ3, m, Vaesca.signsOf zs, rfl, by rw [← zV_signs hs]; exact g1, g2.trans hρ, a4, gd (by simpa using e) e2, fun H5 a5 => ?_⟩
    have a6 := a5.trans F4
    obtain ⟨ρ6, a7, F7⟩ := a6.here
    dsimp only [tSeq, tRet]
    refine lst_new (xs := zV [_]) (fun Q q => ⟨_, rfl, p, ρ6, _, rfl, a7, q⟩) (by show 1 ≤ sizeLine; decide) _ fun H7 q s7 _ e7 => ?_
    exact fin H7 q (a6.same s7) e7
theorem D_whole (T : Tx P w K mg B) : DefOk P w K mg base "whole" B.f_whole 9 ["reader", "signs"] (spC (CB B) 1 fun as H ρ m m' ans => ∃ (l : Addr) (zs : List Int), as = [.ref l] ∧ H l = some (.lst (zV zs)) ∧ ρ l = 0 ∧ zs.length ≤ sizeLine ∧
    (refusal zs 0 = 0 → Good Vaesca.fresh (Vaesca.signsOf zs) ∧ ((Mi.signs Vaesca.fresh (Vaesca.signsOf zs)).mode ≠ .fault → Sm (Mi.signs Vaesca.fresh (Vaesca.signsOf zs)))) ∧ (m', ans) = wholeM m zs) := by
  have D_Reader_renew := D_Reader_renew (base := base) T
  have D_refusal_of := D_refusal_of (base := base) T
  have D_read_signs := D_read_signs (base := base) T
  have D_read_end := D_read_end (base := base) T
  have D_fault_now := D_fault_now (base := base) T
  refine mkDef T.f_whole sc_whole spC_len fun cdv A0 outer s0 H vs Q E hr h => ?_
  obtain ⟨p, as, ρ, m, m', ans, rfl, _, a, ⟨l, zs, rfl, hl, hρ, hz, gd, he⟩, fin⟩ := h
  refine ⟨_, (pss_cons (ps_set (i := 2) sc_whole.nd rfl (Or.inl rfl) (pcall D_refusal_of (hr.mono (by decide)) rfl (pa_cons (pv 1) (pa_cons pe_int pa_nil)))) (pss_cons (ps_if (pt_cmpR op_ne (pv 2) (pgc T.c_NOT_REFUSED) (nomark _)) (pss_one (ps_ret (pe_lst (pa_cons (pv 2) pa_nil)))) pss_nil) (pss_cons (ps_expr (pmeth0 (pv 0) T.cl_Reader D_Reader_renew (hr.mono (by decide)))) (pss_cons (ps_expr (pcall D_read_signs (hr.mono (by decide)) rfl (pa_cons (pv 0) (pa_cons (pv 1) pa_nil)))) (pss_cons (ps_if (pt_cmpR op_ne (pe_fld (pv 0) rfl) (pgc T.c_FAULTY) (nomark _)) (pss_one (ps_expr (pcall D_read_end (hr.mono (by decide)) rfl (pa_cons (pv 0) pa_nil)))) pss_nil) (pss_one (ps_ret (pe_lst (pa_cons (pcall D_fault_now (hr.mono (by decide)) rfl (pa_cons (pv 0) pa_nil)) pa_nil))))))))), ?_⟩
  unfold wholeM at he
  dsimp only [tSeq]
  refine ⟨_, rfl, l, zs, 0, rfl, hl, hz, fun H1 s1 => ?_⟩
  have a1 := a.same s1
  dsimp only [gName, tSeq]
  refine if_refused (zs := zs) (n := 0) (fun e2 => ?_) (fun e2 => ?_) rfl
  · rw [if_neg e2] at he
    cases he
    refine lst_new (xs := zV [_]) (fun Q q => ⟨_, rfl, q⟩) (by show 1 ≤ sizeLine; decide) _ fun H4 q s4 _ e4 => ?_
    exact fin H4 q (a1.same s4) e4
  rw [if_pos e2] at he
  obtain ⟨hs, hn⟩ := refusal_zero e2
  obtain ⟨g0, g3⟩ := gd e2
  obtain ⟨o, ⟨ρ1, A1, R1, F1⟩, ho⟩ := id a1
  dsimp only [tNext, tSeq]
  refine ⟨_, rfl, p, A1.dx, _, rfl, R1.ins, rfl, p, A1.dx, ρ1, _, rfl, R1.ins, R1.lab, .inr ⟨m, A1, rfl⟩, fun H2 a2 => ?_⟩
  have a3 := a2.trans F1
  obtain ⟨ρ3, a4, F4⟩ := a3.here
  obtain ⟨g1, g2⟩ := F4 l _ hl hρ
  dsimp only [tNext, tSeq]
  refine ⟨_, rfl, _, rfl, p, l, ρ3, Vaesca.fresh, Vaesca.signsOf zs, rfl, by rw [← zV_signs hs]; exact g1, g2.trans hρ, a4, g0, fun H5 a5 => ?_⟩
  have a6 := a5.trans F4
  have last : ∀ m2 H6, Wh (CB B) ρ H p m2 H6 → m' = m2 → ans = [(Vaesca.faulty m2 : Int)] → tRet (tLst (tCons (tCall (fun vs H Q _ => ∃ p ρ m, vs = [V.ref p] ∧ Wh (CB B) ρ H p m H ∧ Q (.int (Vaesca.faulty m : Int)) H) [] E0 (tCons (tVar 0) tNil)) tNil))
      { nx := fun _ H' => Q .non H', rt := Q } ((L2.start ["reader", "signs", "refusal"] [.ref p, .ref l]).set 2 (some (.int (refusal zs 0)))) H6 := by
    rintro m2 H6 a7 rfl rfl
    obtain ⟨ρ7, a8, F8⟩ := a7.here
    refine lst_new (xs := zV [_]) (fun Q q => ⟨_, rfl, p, ρ7, _, rfl, a8, q⟩) (by show 1 ≤ sizeLine; decide) _ fun H7 q s7 _ e7 => ?_
    exact fin H7 q (a7.same s7) e7
  obtain ⟨o6, ⟨ρ6, A6, R6, F6⟩, ho6⟩ := id a6
  dsimp only [tNext, tSeq, tIfS, tTest, tOp]
  refine R6.g_mode T.t rfl ⟨rfl, _, rfl, ?_⟩
  rw [show (V.int 26) = V.int 26 from rfl, fault_code]
  by_cases e : (Mi.signs Vaesca.fresh (Vaesca.signsOf zs)).mode = .fault
  · rw [if_pos e] at he
    rw [decide_eq_true e]
    cases he
    exact iteF (last _ _ a6 rfl rfl)
  · rw [if_neg e] at he
    rw [decide_eq_false e]
    cases he
    refine iteT ?_
    refine a6.unit (g3 e) fun H7 a7 => ?_
    exact last _ _ a7 rfl rfl
theorem D_parts_of_open_tag (T : Tx P w K mg B) : DefOk P w K mg base "parts_of_open_tag" B.f_parts_of_open_tag 2 ["tag"] (fun vs H Q _ => ∃ (a : Addr) (pl : Nat) (nm : Text) (as : List (Text × Text)) (en : Bool), vs = [.ref a] ∧ TokH (CB B) H (.ref a) (.opened pl nm as en) ∧ (partsOf nm as en).length ≤ 1000010 ∧ RetL H (nats (partsOf nm as en)) Q) := by
  have D_with_length := D_with_length (base := base) T
  refine mkDef T.f_parts_of_open_tag sc_parts_of_open_tag ?_ fun cdv A0 outer s0 H vs Q E hr h => ?_
  · rintro vs H Q E ⟨a, pl, nm, as, en, rfl, _⟩
    rfl
  obtain ⟨a, pl, nm, as, en, rfl, ⟨ρ, a', dx, ls, d, e0, h1, _, h2, h3⟩, hz, fin⟩ := h
  cases e0
  refine ⟨_, (pss_cons (ps_set (i := 1) sc_parts_of_open_tag.nd rfl (Or.inl rfl) (pe_op op_cat (pe_op op_cat (pe_lst (pa_cons (pe_fld (pv 0) rfl) pa_nil)) (pcall D_with_length (hr.mono (by decide)) rfl (pa_cons (pe_fld (pv 0) rfl) pa_nil))) (pe_lst (pa_cons (pe_callB call_lenT rfl T.n_len PySem.boot_len (pa_cons (pe_fld (pv 0) rfl) pa_nil)) pa_nil)))) (pss_cons (ps_lock (ps_for PassesOwn.never rfl (pi_itemsT (pe_fld (pv 0) rfl)) (pg_tup rfl (pgs_cons (pg_name (i := 2) sc_parts_of_open_tag.nd rfl (Or.inl rfl)) (pgs_cons (pg_name (i := 3) sc_parts_of_open_tag.nd rfl (Or.inl rfl)) pgs_nil))) (pss_cons (ps_expr (pe_bm PySem.F.plainAttrs_list PySem.F.slot_list_extend PySem.F.type_list_extend mt_extend (pv 1) (pa_cons (pcall D_with_length (hr.mono (by decide)) rfl (pa_cons (pv 2) pa_nil)) pa_nil))) (pss_one (ps_expr (pe_bm PySem.F.plainAttrs_list PySem.F.slot_list_extend PySem.F.type_list_extend mt_extend (pv 1) (pa_cons (pcall D_with_length (hr.mono (by decide)) rfl (pa_cons (pv 3) pa_nil)) pa_nil))))))) (pss_one (ps_ret (pv 1))))), ?_⟩
  obtain ⟨_, kvs, hd, pk⟩ := h3
  have pk : Paired (AttP H ρ) kvs as := pk
  have h2' : H ls = some (.lst (nats nm)) := h2.1
  have := mil
  have lenC : ∀ t : Text, (Vaesca.counted t).length = t.length + 1 := fun t => rfl
  have hz2 : 1 + (nm.length + 1) + (1 + (as.flatMap fun a => Vaesca.counted a.1 ++ Vaesca.counted a.2).length) ≤ 1000010 := by
    have e : (partsOf nm as en).length = 1 + (nm.length + 1) + (1 + (as.flatMap fun a => Vaesca.counted a.1 ++ Vaesca.counted a.2).length) := by
      unfold partsOf
      rw [List.length_cons, List.length_append, List.length_cons, lenC]
      omega
    rw [e] at hz
    exact hz
  have le : (nats (nm.length :: nm)).length = nm.length + 1 := nats_len _
  dsimp only [tSeq]
  show tOp _ _ _ _ _ _
  refine cat_new (xs := nats [tokEnded (.opened pl nm as en)] ++ nats (nm.length :: nm)) (ys := nats [as.length]) (NewL.val (cat_new (NewL.val (lst_new (fun Q q => ?_) (by show 1 ≤ sizeLine; decide))) (fun H1 s1 => NewL.val fun Q2 f2 => ?_) ?_)) (fun H1 s1 => NewL.val (lst_new (fun Q q => ?_) (by show 1 ≤ sizeLine; decide))) ?_ _ fun H1 q s1 hq h1q => ?_
  · dsimp only [tCons]
    exact k_ended T.t h1 rfl q
  · dsimp only [tCall, tCons]
    refine k_signs T.t (s1 _ _ h1) rfl ⟨ls, _, rfl, .inl (SqL.of (s1 _ _ h2')), by rw [nats_len]; omega, ?_⟩
    rw [nats_len]
    exact f2
  · rw [le]; show 1 + _ ≤ _; omega
  · dsimp only [tCons, tCB]
    refine k_attrs T.t (s1 _ _ h1) rfl ⟨d, kvs, rfl, s1 _ _ hd, ?_⟩
    rw [Hr.Paired.len pk]
    exact q
  · rw [List.length_append, le]; show 1 + _ + 1 ≤ _; omega
  dsimp only [gName]
  have hd1 : H1 d = some (.dT kvs) := s1 _ _ hd
  refine ⟨d, .dT kvs, hd1, True.intro, fun od => ?_⟩
  have ndq : d ≠ q := ne_of_none hd hq
  have nda : a ≠ d := ne_of h1 hd (by intro z; cases z)
  have ha2 : upd H1 d (.frz od (.dT kvs)) a = some (.ins (CB B).tok dx (tfs (tokKind (.opened pl nm as en)) (tokPlace (.opened pl nm as en)) ls d (tokEnded (.opened pl nm as en)))) := by rw [upd_ne nda]; exact s1 _ _ h1
  have acc : ∀ i : Nat, List Nat := fun i => tokEnded (.opened pl nm as en) :: (Vaesca.counted nm ++ (as.length :: (as.take i).flatMap fun a => Vaesca.counted a.1 ++ Vaesca.counted a.2))
  refine ⟨_, rfl, a, B.C_Token, dx, _, _, rfl, ha2, T.t.clT, T.t.t4, rfl, d, od, kvs, rfl, upd_same, ?_⟩
  refine for_itemsT (d := d) (o := od) (kvs := kvs) (fun i σ H' => ∃ v2 v3, σ = [some (.ref a), some (.ref q), v2, v3] ∧ (∀ b o, H b = some o → b ≠ d → H' b = some o) ∧ H' d = some (.frz od (.dT kvs)) ∧ H' q = some (.lst (nats (tokEnded (.opened pl nm as en) :: (Vaesca.counted nm ++ (as.length :: (as.take i).flatMap fun a => Vaesca.counted a.1 ++ Vaesca.counted a.2))))))
    ⟨none, none, rfl, fun b o e hb => by rw [upd_ne hb]; exact s1 b o e, upd_same, ?_⟩ (fun i σ H' _ z => by obtain ⟨v2, v3, _, _, z, _⟩ := z; exact z) ?_ ?_
  · rw [upd_ne (Ne.symm ndq), h1q]
    show some (HO.lst (nats [_] ++ nats (nm.length :: nm) ++ nats [as.length])) = some (HO.lst (nats ([_] ++ (Vaesca.counted nm ++ [as.length]))))
    rw [nats_app, nats_app, List.append_assoc]
    rfl
  · rintro i k v x U σ H2 hkv ⟨v2, v3, rfl, k2, f2, g2⟩ hx hU
    obtain ⟨⟨an, av⟩, hav, e1, y, e2, e3, _⟩ := paired_get pk hkv
    dsimp only at e1 e2 e3
    subst e1 e2
    rw [keys_kV] at hx
    have hy : H2 y = some (.lst (nats av)) := k2 _ _ e3 (ne_of e3 hd (by intro z; cases z))
    have sU : Same H2 (upd H2 U (.tup [.ref x, .ref y])) := Same.upd hU
    refine ⟨U, _, rfl, SqT.of upd_same, rfl, _, _, rfl, _, _, rfl, rfl, ?_⟩
    have hwa : (an.length + 1) + (av.length + 1) + ((as.take i).flatMap fun a => Vaesca.counted a.1 ++ Vaesca.counted a.2).length ≤ (as.flatMap fun a => Vaesca.counted a.1 ++ Vaesca.counted a.2).length := by
      have e4 : (as.flatMap fun a => Vaesca.counted a.1 ++ Vaesca.counted a.2) = ((as.take (i + 1)).flatMap fun a => Vaesca.counted a.1 ++ Vaesca.counted a.2) ++ ((as.drop (i + 1)).flatMap fun a => Vaesca.counted a.1 ++ Vaesca.counted a.2) := by rw [← List.flatMap_append, List.take_append_drop]
      rw [e4, List.length_append, take_succ hav, List.flatMap_append, List.length_append, List.flatMap_cons, List.flatMap_nil, List.append_nil, List.length_append, lenC, lenC]
      dsimp only
      omega
    have lacc : (nats (tokEnded (.opened pl nm as en) :: (Vaesca.counted nm ++ (as.length :: (as.take i).flatMap fun a => Vaesca.counted a.1 ++ Vaesca.counted a.2)))).length = 1 + (nm.length + 1) + (1 + ((as.take i).flatMap fun a => Vaesca.counted a.1 ++ Vaesca.counted a.2).length) := by
      rw [nats_len, List.length_cons, List.length_append, List.length_cons, lenC]
      omega
    dsimp only [tSeq]
    refine ⟨_, rfl, .inl ⟨rfl, _, SqL.of (sU _ _ g2)⟩, _, rfl, ?_⟩
    refine ⟨x, _, rfl, .inr (SqT.of (sU _ _ hx)), by rw [nats_len]; omega, fun H3 z s3 n3 h3z => ?_⟩
    have g3 := s3 _ _ (sU _ _ g2)
    rw [nats_len] at h3z
    refine ⟨q, z, _, _, rfl, rfl, g3, h3z, by rw [lacc, List.length_cons, nats_len]; omega, ?_⟩
    generalize hG : (nats (tokEnded (.opened pl nm as en) :: (Vaesca.counted nm ++ (as.length :: (as.take i).flatMap fun a => Vaesca.counted a.1 ++ Vaesca.counted a.2)))) = G at lacc g3 ⊢
    refine ⟨_, rfl, .inl ⟨rfl, _, SqL.of upd_same⟩, _, rfl, ?_⟩
    have nyq : y ≠ q := ne_of_none e3 hq
    refine ⟨y, nats av, rfl, .inl (SqL.of (by rw [upd_ne nyq]; exact s3 _ _ (sU _ _ hy))), by rw [nats_len]; omega, fun H4 z4 s4 n4 h4z => ?_⟩
    rw [nats_len] at h4z
    have g4 := s4 q _ upd_same
    refine ⟨q, z4, _, _, rfl, rfl, g4, h4z, ?_, ?_⟩
    · rw [List.length_append, lacc, List.length_cons, List.length_cons, nats_len, nats_len]; omega
    refine ⟨some (.ref x), some (.ref y), rfl, fun b o e hb => ?_, ?_, ?_⟩
    · rw [upd_ne (ne_of_none e hq)]
      refine s4 _ _ ?_
      rw [upd_ne (ne_of_none e hq)]
      exact s3 _ _ (sU _ _ (k2 b o e hb))
    · rw [upd_ne ndq]
      refine s4 _ _ ?_
      rw [upd_ne ndq]
      exact s3 _ _ (sU _ _ f2)
    · rw [upd_same, ← hG, take_succ hav, List.flatMap_append]
      show some (HO.lst (nats _ ++ nats (an.length :: an) ++ nats (av.length :: av))) = _
      rw [← nats_app, ← nats_app]
      simp [Vaesca.counted]
  · rintro σ H2 ⟨v2, v3, rfl, k2, f2, g2⟩
    rw [Hr.Paired.len pk, List.take_length] at g2
    refine ⟨f2, ?_⟩
    refine ⟨_, rfl, fin _ q (fun b o e => ?_) hq ?_⟩
    · by_cases z : b = d
      · subst z; rw [upd_same]; rw [hd] at e; exact e
      · rw [upd_ne z]; exact k2 b o e z
    · rw [upd_ne (Ne.symm ndq), g2]
      cases en <;> rfl
end
end Mr
end
section
set_option Elab.async false
set_option linter.all false
set_option maxRecDepth 100000
set_option maxHeartbeats 2000000
namespace Mr
open PySem PySem.Spec PyProof.Rows L2 Hr
open Vaesca (Text Token Reader Mode Home)
def tokenAns (m : Reader) (i : Int) : List Int := if i < 0 then [-4] else match m.tokens[i.toNat]? with
  | some t => (Vaesca.shownToken t).map Int.ofNat
  | none => [-4]
def tailOf : Token → List Nat
  | .text _ s => s
  | .opened _ n as e => partsOf n as e
  | .closed _ n => n
  | .comment _ s => s
  | .raw _ s => s
theorem shown_eq (t : Token) : Vaesca.shownToken t = tokKind t :: tokPlace t :: tailOf t := by cases t <;> rfl
section
variable {P : Program} {w : World} {K : PySem.W.Frag} {mg : Str → Option Value} {base : Heap} {B : Adr}
theorem D_token (T : Tx P w K mg B) : DefOk P w K mg base "token" B.f_token 3 ["reader", "i"] (spLook (CB B) 1 fun as m ans => ∃ i : Int, as = [.int i] ∧ (∀ t ∈ m.tokens, (tailOf t).length ≤ 1000010) ∧ ans = tokenAns m i) := by
  have D_parts_of_open_tag := D_parts_of_open_tag (base := base) T
  refine mkDef T.f_token sc_token spC_len fun cdv A0 outer s0 H vs Q E hr h => ?_
  obtain ⟨p, as, ρ, _, m, ans, rfl, _, a, ⟨rfl, i, rfl, hz, rfl⟩, fin⟩ := h
  refine ⟨_, (pss_cons (ps_if (pt_not (pt_chain op_le op_lt pe_int (pv 1) (pe_callB call_len rfl T.n_len PySem.boot_len (pa_cons (pe_fld (pv 0) rfl) pa_nil)))) (pss_one (ps_ret (pe_lst (pa_cons (pgc T.c_NO_SUCH_TOKEN) pa_nil)))) pss_nil) (pss_cons (ps_set (i := 2) sc_token.nd rfl (Or.inl rfl) (pe_ix ix_list (pe_fld (pv 0) rfl) (pv 1) (fun _ _ => rfl))) (pss_cons (ps_set (i := 3) sc_token.nd rfl (Or.inl rfl) (pe_ifExp (pt_cmpR op_eq (pe_fld (pv 2) rfl) (pgc T.c_OPEN_TAG_TOKEN) (nomark _)) (pcall D_parts_of_open_tag (hr.mono (by decide)) rfl (pa_cons (pv 2) pa_nil)) (pe_fld (pv 2) rfl))) (pss_one (ps_ret (pe_op op_cat (pe_lst (pa_cons (pe_fld (pv 2) rfl) (pa_cons (pe_fld (pv 2) rfl) pa_nil))) (pv 3))))))), ?_⟩
  obtain ⟨o, ⟨ρ1, A1, R1, F1⟩, ho⟩ := id a
  obtain ⟨lt, ws, ht, pt⟩ := id R1.tok
  have hlen := Hr.Paired.len pt
  have := mil
  unfold tokenAns at fin
  dsimp only [tSeq]
  refine ⟨_, rfl, _, _, rfl, rfl, _, rfl, ?_⟩
  by_cases g1 : 0 ≤ i
  · rw [if_neg (by omega)] at fin
    rw [decide_eq_true g1]
    refine iteT ?_
    dsimp only [tCB, tCons]
    refine R1.g_tok T.t rfl ⟨_, ws.length, rfl, .inl ⟨_, SqL.of ht, rfl⟩, _, _, rfl, rfl, _, rfl, ?_⟩
    by_cases g2 : i < (ws.length : Int)
    · rw [decide_eq_true g2]
      refine iteF ?_
      obtain ⟨j, hj⟩ : ∃ j : Nat, i = (j : Int) := ⟨i.toNat, by omega⟩
      subst hj
      have hjl : j < ws.length := by omega
      obtain ⟨v, hv⟩ : ∃ v, ws[j]? = some v := ⟨_, List.getElem?_eq_getElem hjl⟩
      obtain ⟨t, htt, hp⟩ := paired_get pt hv
      rw [show ((j : Int).toNat) = j from rfl, htt] at fin
      have hzt := hz t (List.mem_of_getElem? htt)
      obtain ⟨x, dx, ls, d, rfl, hx, lx, hls, hat⟩ := id hp
      dsimp only [tNext, tSeq, tAsg, tOp]
      refine R1.g_tok T.t rfl ⟨_, rfl, A1.tok, ws, _, _, rfl, rfl, SqL.of ht, atI_nat hv, ?_⟩
      dsimp only [gName]
      have fin2 : RetL H (nats [tokKind t, tokPlace t] ++ nats (tailOf t)) Q := by
        intro H2 q s2 n2 e2
        refine fin H2 q (a.same s2) ?_
        rw [e2, ← nats_app, nats_zV]
        show _ = some (HO.lst (zV ((Vaesca.shownToken t).map Int.ofNat)))
        rw [shown_eq]
        rfl
      have last : ∀ (H1 : Hp) (y : Addr) (σ : L2.St), Same H H1 → H1 y = some (.lst (nats (tailOf t))) → σ[2]? = some (some (.ref x)) → σ[3]? = some (some (.ref y)) →
          tRet (tOp rCat (tLst (tCons (tFld K (tVar 2) "kind") (tCons (tFld K (tVar 2) "place") tNil))) (tVar 3)) { nx := fun _ H' => Q .non H', rt := Q } σ H1 := by
        intro H1 y σ s1 hy h2 h3
        refine cat_new (xs := nats [tokKind t, tokPlace t]) (NewL.val (lst_new (fun Q q => ?_) (by show 2 ≤ sizeLine; decide))) (fun H2 s2 => old_val (fun Q q => ⟨_, h3, q⟩) (s2 _ _ hy)) ?_ _ (RetL.same fin2 s1)
        · dsimp only [tCons]
          exact k_kind T.t (s1 _ _ hx) h2 (k_place T.t (s1 _ _ hx) h2 q)
        · rw [nats_len (tailOf t)]; show 2 + _ ≤ _; omega
      dsimp only [tSeq, tAsg, tIf, tTest, tOp]
      refine k_kind T.t hx rfl ⟨rfl, _, rfl, ?_⟩
      cases t with
      | opened pl nm as en =>
        refine iteT ?_
        refine ⟨_, rfl, x, pl, nm, as, en, rfl, ⟨ρ1, hp⟩, hzt, fun H1 y s1 n1 hy => ?_⟩
        exact last H1 y _ s1 hy rfl rfl
      | text pl s => exact iteF (k_signs T.t hx rfl (last H ls _ (Same.refl H) hls.1 rfl rfl))
      | closed pl s => exact iteF (k_signs T.t hx rfl (last H ls _ (Same.refl H) hls.1 rfl rfl))
      | comment pl s => exact iteF (k_signs T.t hx rfl (last H ls _ (Same.refl H) hls.1 rfl rfl))
      | raw pl s => exact iteF (k_signs T.t hx rfl (last H ls _ (Same.refl H) hls.1 rfl rfl))
    · rw [decide_eq_false g2]
      rw [List.getElem?_eq_none (by omega)] at fin
      refine iteT ?_
      exact lst_new (xs := zV [-4]) (fun Q q => q) (by show 1 ≤ sizeLine; decide) _ fun H2 q s2 _ e2 => fin H2 q (a.same s2) e2
  · rw [if_pos (by omega)] at fin
    rw [decide_eq_false g1]
    refine iteF ⟨_, rfl, iteT ?_⟩
    exact lst_new (xs := zV [-4]) (fun Q q => q) (by show 1 ≤ sizeLine; decide) _ fun H2 q s2 _ e2 => fin H2 q (a.same s2) e2
def lenCall (zs : List Int) (i : Nat) : Int := match zs[i]?, zs[i + 1]? with
  | some z, some n => if z = 1 ∨ z = 9 then 2 + n else if z = 5 then 2 else 1
  | some z, none => if z = 5 then 2 else 1
  | none, _ => 1
theorem zV_at {zs : List Int} {i : Nat} {z : Int} (h : zs[i]? = some z) : atI (zV zs) (i : Int) = some (.int z) := atI_nat (by unfold zV; rw [List.getElem?_map, h]; rfl)
theorem D_length_of_call (T : Tx P w K mg B) : DefOk P w K mg base "length_of_call" B.f_length_of_call 1 ["calls", "position"] (fun vs H Q _ => ∃ (l : Addr) (zs : List Int) (i : Nat) (z : Int), vs = [.ref l, .int (i : Int)] ∧ SqL K H l (zV zs) ∧ zs[i]? = some z ∧ (z = 1 ∨ z = 9 → ∃ n, zs[i + 1]? = some n) ∧ Q (.int (lenCall zs i)) H) := by
  refine mkDef T.f_length_of_call sc_length_of_call ?_ fun cdv A0 outer s0 H vs Q E hr h => ?_
  · rintro vs H Q E ⟨l, zs, i, z, rfl, _⟩
    rfl
  obtain ⟨l, zs, i, z, rfl, hs, hz, hn, k⟩ := h
  refine ⟨_, (pss_cons (ps_set (i := 2) sc_length_of_call.nd rfl (Or.inl rfl) (pe_ix ix_list (pv 0) (pv 1) (fun _ _ => rfl))) (pss_cons (ps_if (pt_cmp (pc_kin (hu_of hr) (pv 2) (pga T.a_CALLS_WITH_SIGNS))) (pss_one (ps_ret (pe_op op_add pe_int (pe_ix ix_list (pv 0) (pe_op op_add (pv 1) pe_int) (fun _ _ => rfl))))) pss_nil) (pss_cons (ps_if (pt_cmp (pc_kin (hu_of hr) (pv 2) (pga T.a_CALLS_WITH_NUMBER))) (pss_one (ps_ret pe_int)) pss_nil) (pss_one (ps_ret pe_int))))), ?_⟩
  unfold lenCall at k
  rw [hz] at k
  dsimp only [tSeq]
  refine ⟨_, rfl, _, rfl, l, _, _, _, rfl, rfl, hs, zV_at hz, ?_⟩
  dsimp only [gName, tSeq]
  refine ⟨_, rfl, B.d_CALLS_WITH_SIGNS, _, rfl, .inl ⟨_, Sum.inl z, T.d_CALLS_WITH_SIGNS, rfl, rfl⟩, _, rfl, ?_⟩
  have e1 : (valV ([(Sum.inl 1, .ref B.f_feed), (Sum.inl 9, .ref B.f_whole)] : List (Key × V)) (Sum.inl z)).isSome = decide (z = 1 ∨ z = 9) := by
    by_cases h1 : z = 1
    · subst h1; rfl
    · by_cases h9 : z = 9
      · subst h9; rfl
      · rw [valV_neg (fun q => h1 (Sum.inl.inj q).symm), valV_neg (fun q => h9 (Sum.inl.inj q).symm), valV_nil, decide_eq_false (by rintro (q | q); exact h1 q; exact h9 q)]
        rfl
  rw [e1]
  by_cases h19 : z = 1 ∨ z = 9
  · rw [decide_eq_true h19]
    obtain ⟨n, hn1⟩ := hn h19
    rw [hn1] at k
    dsimp only at k
    rw [if_pos h19] at k
    refine iteT ⟨_, rfl, _, rfl, _, _, rfl, rfl, l, _, _, _, rfl, rfl, hs, ?_, _, _, rfl, rfl, k⟩
    exact zV_at hn1
  · rw [decide_eq_false h19]
    have k2 : Q (.int (if z = 5 then 2 else 1)) H := by
      cases q : zs[i + 1]? with
      | none => rw [q] at k; exact k
      | some n => rw [q] at k; dsimp only at k; rw [if_neg h19] at k; exact k
    refine iteF ?_
    dsimp only [tNext, tSeq]
    refine ⟨_, rfl, B.d_CALLS_WITH_NUMBER, _, rfl, .inl ⟨_, Sum.inl z, T.d_CALLS_WITH_NUMBER, rfl, rfl⟩, _, rfl, ?_⟩
    have e2 : (valV ([(Sum.inl 5, .ref B.f_token)] : List (Key × V)) (Sum.inl z)).isSome = decide (z = 5) := by
      by_cases h5 : z = 5
      · subst h5; rfl
      · rw [valV_neg (fun q => h5 (Sum.inl.inj q).symm), valV_nil, decide_eq_false h5]
        rfl
    rw [e2]
    by_cases h5 : z = 5
    · rw [decide_eq_true h5]
      rw [if_pos h5] at k2
      exact iteT k2
    · rw [decide_eq_false h5]
      rw [if_neg h5] at k2
      exact iteF k2
end
end Mr
end
section
set_option Elab.async false
set_option linter.all false
set_option maxRecDepth 100000
set_option maxHeartbeats 2000000
namespace Mr
open PySem PySem.Spec PyProof.Rows L2 Hr
open Vaesca (Text Token Reader Mode Home)
inductive CallR : List Int → Reader → Reader → List Int → Prop
  | begin (m : Reader) : CallR [0] m Vaesca.fresh [0]
  | feed (n : Int) (zs : List Int) (m : Reader) (hz : zs.length ≤ sizeLine) (g : Vaesca.isDone m = false → refusal zs m.count = 0 → Good m (Vaesca.signsOf zs)) : CallR (1 :: n :: zs) m (feedM m zs).1 (feedM m zs).2
  | fin (m : Reader) (s : Vaesca.isDone m = false → Sm m) : CallR [2] m (endM m).1 (endM m).2
  | fault (m : Reader) : CallR [3] m m [(wk m : Int), (wp m : Int)]
  | tokens (m : Reader) : CallR [4] m m [(m.tokens.length : Int)]
  | token (i : Int) (m : Reader) (h : ∀ t ∈ m.tokens, (tailOf t).length ≤ 1000010) : CallR [5, i] m m (tokenAns m i)
  | state (m : Reader) (h : m.tag.length + m.attr.length + m.body.length ≤ 1000000) : CallR [6] m m ((Vaesca.shownState m).map Int.ofNat)
  | marks (m : Reader) (h : m.marks.length ≤ 1000000) : CallR [7] m m ((m.marks.length :: m.marks.flatMap fun q => [q.1, q.2]).map Int.ofNat)
  | written (m : Reader) (h : (Vaesca.written m.tokens).length ≤ 1000000) : CallR [8] m m ((Vaesca.counted (Vaesca.written m.tokens)).map Int.ofNat)
  | whole (n : Int) (zs : List Int) (m : Reader) (hz : zs.length ≤ sizeLine) (g : refusal zs 0 = 0 → Good Vaesca.fresh (Vaesca.signsOf zs) ∧ ((Mi.signs Vaesca.fresh (Vaesca.signsOf zs)).mode ≠ .fault → Sm (Mi.signs Vaesca.fresh (Vaesca.signsOf zs)))) : CallR (9 :: n :: zs) m (wholeM m zs).1 (wholeM m zs).2
theorem zV_drop (zs : List Int) (k : Nat) : (zV zs).drop k = zV (zs.drop k) := by unfold zV; rw [List.map_drop]
theorem zV_take (zs : List Int) (k : Nat) : (zV zs).take k = zV (zs.take k) := by unfold zV; rw [List.map_take]
section
variable {P : Program} {w : World} {K : PySem.W.Frag} {mg : Str → Option Value} {base : Heap} {B : Adr}
theorem D_answer_of (T : Tx P w K mg B) : DefOk P w K mg base "answer_of" B.f_answer_of 10 ["reader", "call"] (spC (CB B) 1 fun as H ρ m m' ans => ∃ (l : Addr) (cs : List Int), as = [.ref l] ∧ H l = some (.lst (zV cs)) ∧ CallR cs m m' ans) := by
  refine mkDef T.f_answer_of sc_answer_of spC_len fun cdv A0 outer s0 H vs Q E hr h => ?_
  obtain ⟨p, as, ρ, m, m', ans, rfl, _, a, ⟨l, cs, rfl, hl, hc⟩, fin⟩ := h
  refine ⟨_, (pss_cons (ps_set (i := 2) sc_answer_of.nd rfl (Or.inl rfl) (pe_ix ix_list (pv 1) pe_int (fun _ _ => rfl))) (pss_cons (ps_if (pt_cmp (pc_kin (hu_of hr) (pv 2) (pga T.a_CALLS_WITH_SIGNS))) (pss_cons (ps_set (i := 3) sc_answer_of.nd rfl (Or.inl rfl) (pe_kget (hu_of hr) (pga T.a_CALLS_WITH_SIGNS) (pv 2) (fun _ _ => rfl))) (pss_one (ps_ret (pe_callV (pv 3) pass0 (pa_cons (pv 0) (pa_cons (pe_slice sl_list (pv 1) (po_some pe_int) po_none) pa_nil)))))) pss_nil) (pss_cons (ps_if (pt_cmp (pc_kin (hu_of hr) (pv 2) (pga T.a_CALLS_WITH_NUMBER))) (pss_cons (ps_set (i := 4) sc_answer_of.nd rfl (Or.inl rfl) (pe_kget (hu_of hr) (pga T.a_CALLS_WITH_NUMBER) (pv 2) (fun _ _ => rfl))) (pss_one (ps_ret (pe_callV (pv 4) pass0 (pa_cons (pv 0) (pa_cons (pe_ix ix_list (pv 1) pe_int (fun _ _ => rfl)) pa_nil)))))) pss_nil) (pss_cons (ps_set (i := 5) sc_answer_of.nd rfl (Or.inl rfl) (pe_kget (hu_of hr) (pga T.a_CALLS_ALONE) (pv 2) (fun _ _ => rfl))) (pss_one (ps_ret (pe_callV (pv 5) pass0 (pa_cons (pv 0) pa_nil)))))))), ?_⟩
  obtain ⟨ρ1, a1, F1⟩ := a.here
  cases hc with
  | begin =>
    refine ⟨_, rfl, l, _, _, _, rfl, rfl, SqL.of hl, zV_at (i := 0) rfl, ?_⟩
    dsimp only [gName, tSeq]
    refine ⟨_, rfl, B.d_CALLS_WITH_SIGNS, _, rfl, .inl ⟨_, Sum.inl 0, T.d_CALLS_WITH_SIGNS, rfl, rfl⟩, _, rfl, ?_⟩
    refine iteF ?_
    dsimp only [tNext, tSeq]
    refine ⟨_, rfl, B.d_CALLS_WITH_NUMBER, _, rfl, .inl ⟨_, Sum.inl 0, T.d_CALLS_WITH_NUMBER, rfl, rfl⟩, _, rfl, ?_⟩
    refine iteF ?_
    dsimp only [tNext, tSeq]
    refine ⟨_, rfl, B.d_CALLS_ALONE, .ref B.f_begin, rfl, .inl ⟨_, Sum.inl 0, T.d_CALLS_ALONE, rfl, rfl⟩, ?_⟩
    dsimp only [gName]
    exact callV_of (D_begin T) (hr.mono (by decide)) rfl ⟨_, rfl, p, [], ρ1, m, _, _, rfl, rfl, a1, ⟨rfl, rfl, rfl⟩, fun H' q a' e' => fin H' q (a'.trans F1) e'⟩
  | feed n zs _ hz g =>
    refine ⟨_, rfl, l, _, _, _, rfl, rfl, SqL.of hl, zV_at (i := 0) rfl, ?_⟩
    dsimp only [gName, tSeq]
    refine ⟨_, rfl, B.d_CALLS_WITH_SIGNS, _, rfl, .inl ⟨_, Sum.inl 1, T.d_CALLS_WITH_SIGNS, rfl, rfl⟩, _, rfl, ?_⟩
    refine iteT ?_
    dsimp only [tNext, tSeq]
    refine ⟨_, rfl, B.d_CALLS_WITH_SIGNS, .ref B.f_feed, rfl, .inl ⟨_, Sum.inl 1, T.d_CALLS_WITH_SIGNS, rfl, rfl⟩, ?_⟩
    dsimp only [gName]
    refine callV_of (D_feed T) (hr.mono (by decide)) rfl ⟨_, rfl, _, rfl, 2, rfl, l, _, rfl, SqL.of hl, fun q hq => ?_⟩
    rw [show (some (2 : Int)) = some ((2 : Nat) : Int) from rfl, cut_lo (α := Nat), zV_drop]
    have s2 : Same H (upd H q (.lst (zV zs))) := Same.upd hq
    obtain ⟨ρ2, S2, n2⟩ := Stay.same (ρ := ρ1) s2
    obtain ⟨o, ⟨ρ3, A3, R3, F3⟩, ho⟩ := a1.same s2
    obtain ⟨o1, ⟨ρ4, A4, R4, F4⟩, ho1⟩ := id a
    obtain ⟨ρ5, S5, n5⟩ := Stay.same (ρ := ρ4) s2
    refine ⟨p, [.ref q], ρ5, m, _, _, rfl, rfl, ⟨o1, ⟨ρ5, A4, R4.keep S5 fun _ _ => trivial, Stay.refl⟩, ho1⟩, ⟨q, zs, rfl, upd_same, n5 q hq, hz, g, rfl⟩, fun H' q' a' e' => fin H' q' (a'.trans (F4.trans (S5.sub fun _ _ => trivial))) e'⟩
  | fin _ s =>
    refine ⟨_, rfl, l, _, _, _, rfl, rfl, SqL.of hl, zV_at (i := 0) rfl, ?_⟩
    dsimp only [gName, tSeq]
    refine ⟨_, rfl, B.d_CALLS_WITH_SIGNS, _, rfl, .inl ⟨_, Sum.inl 2, T.d_CALLS_WITH_SIGNS, rfl, rfl⟩, _, rfl, ?_⟩
    refine iteF ?_
    dsimp only [tNext, tSeq]
    refine ⟨_, rfl, B.d_CALLS_WITH_NUMBER, _, rfl, .inl ⟨_, Sum.inl 2, T.d_CALLS_WITH_NUMBER, rfl, rfl⟩, _, rfl, ?_⟩
    refine iteF ?_
    dsimp only [tNext, tSeq]
    refine ⟨_, rfl, B.d_CALLS_ALONE, .ref B.f_end, rfl, .inl ⟨_, Sum.inl 2, T.d_CALLS_ALONE, rfl, rfl⟩, ?_⟩
    dsimp only [gName]
    exact callV_of (D_end T) (hr.mono (by decide)) rfl ⟨_, rfl, p, [], ρ1, m, _, _, rfl, rfl, a1, ⟨rfl, s, rfl⟩, fun H' q a' e' => fin H' q (a'.trans F1) e'⟩
  | fault =>
    refine ⟨_, rfl, l, _, _, _, rfl, rfl, SqL.of hl, zV_at (i := 0) rfl, ?_⟩
    dsimp only [gName, tSeq]
    refine ⟨_, rfl, B.d_CALLS_WITH_SIGNS, _, rfl, .inl ⟨_, Sum.inl 3, T.d_CALLS_WITH_SIGNS, rfl, rfl⟩, _, rfl, ?_⟩
    refine iteF ?_
    dsimp only [tNext, tSeq]
    refine ⟨_, rfl, B.d_CALLS_WITH_NUMBER, _, rfl, .inl ⟨_, Sum.inl 3, T.d_CALLS_WITH_NUMBER, rfl, rfl⟩, _, rfl, ?_⟩
    refine iteF ?_
    dsimp only [tNext, tSeq]
    refine ⟨_, rfl, B.d_CALLS_ALONE, .ref B.f_fault, rfl, .inl ⟨_, Sum.inl 3, T.d_CALLS_ALONE, rfl, rfl⟩, ?_⟩
    dsimp only [gName]
    exact callV_of (D_fault T) (hr.mono (by decide)) rfl ⟨_, rfl, p, [], ρ1, m, _, _, rfl, rfl, a1, ⟨rfl, rfl, rfl⟩, fun H' q a' e' => fin H' q (a'.trans F1) e'⟩
  | tokens =>
    refine ⟨_, rfl, l, _, _, _, rfl, rfl, SqL.of hl, zV_at (i := 0) rfl, ?_⟩
    dsimp only [gName, tSeq]
    refine ⟨_, rfl, B.d_CALLS_WITH_SIGNS, _, rfl, .inl ⟨_, Sum.inl 4, T.d_CALLS_WITH_SIGNS, rfl, rfl⟩, _, rfl, ?_⟩
    refine iteF ?_
    dsimp only [tNext, tSeq]
    refine ⟨_, rfl, B.d_CALLS_WITH_NUMBER, _, rfl, .inl ⟨_, Sum.inl 4, T.d_CALLS_WITH_NUMBER, rfl, rfl⟩, _, rfl, ?_⟩
    refine iteF ?_
    dsimp only [tNext, tSeq]
    refine ⟨_, rfl, B.d_CALLS_ALONE, .ref B.f_tokens, rfl, .inl ⟨_, Sum.inl 4, T.d_CALLS_ALONE, rfl, rfl⟩, ?_⟩
    dsimp only [gName]
    exact callV_of (D_tokens T) (hr.mono (by decide)) rfl ⟨_, rfl, p, [], ρ1, m, _, _, rfl, rfl, a1, ⟨rfl, rfl, rfl⟩, fun H' q a' e' => fin H' q (a'.trans F1) e'⟩
  | token i _ hh =>
    refine ⟨_, rfl, l, _, _, _, rfl, rfl, SqL.of hl, zV_at (i := 0) rfl, ?_⟩
    dsimp only [gName, tSeq]
    refine ⟨_, rfl, B.d_CALLS_WITH_SIGNS, _, rfl, .inl ⟨_, Sum.inl 5, T.d_CALLS_WITH_SIGNS, rfl, rfl⟩, _, rfl, ?_⟩
    refine iteF ?_
    dsimp only [tNext, tSeq]
    refine ⟨_, rfl, B.d_CALLS_WITH_NUMBER, _, rfl, .inl ⟨_, Sum.inl 5, T.d_CALLS_WITH_NUMBER, rfl, rfl⟩, _, rfl, ?_⟩
    refine iteT ?_
    dsimp only [tNext, tSeq]
    refine ⟨_, rfl, B.d_CALLS_WITH_NUMBER, .ref B.f_token, rfl, .inl ⟨_, Sum.inl 5, T.d_CALLS_WITH_NUMBER, rfl, rfl⟩, ?_⟩
    dsimp only [gName]
    exact callV_of (D_token T) (hr.mono (by decide)) rfl ⟨_, rfl, _, rfl, l, _, _, _, rfl, rfl, SqL.of hl, zV_at (i := 1) rfl, p, [.int i], ρ1, m, _, _, rfl, rfl, a1, ⟨rfl, i, rfl, hh, rfl⟩, fun H' q a' e' => fin H' q (a'.trans F1) e'⟩
  | state _ hh =>
    refine ⟨_, rfl, l, _, _, _, rfl, rfl, SqL.of hl, zV_at (i := 0) rfl, ?_⟩
    dsimp only [gName, tSeq]
    refine ⟨_, rfl, B.d_CALLS_WITH_SIGNS, _, rfl, .inl ⟨_, Sum.inl 6, T.d_CALLS_WITH_SIGNS, rfl, rfl⟩, _, rfl, ?_⟩
    refine iteF ?_
    dsimp only [tNext, tSeq]
    refine ⟨_, rfl, B.d_CALLS_WITH_NUMBER, _, rfl, .inl ⟨_, Sum.inl 6, T.d_CALLS_WITH_NUMBER, rfl, rfl⟩, _, rfl, ?_⟩
    refine iteF ?_
    dsimp only [tNext, tSeq]
    refine ⟨_, rfl, B.d_CALLS_ALONE, .ref B.f_state, rfl, .inl ⟨_, Sum.inl 6, T.d_CALLS_ALONE, rfl, rfl⟩, ?_⟩
    dsimp only [gName]
    exact callV_of (D_state T) (hr.mono (by decide)) rfl ⟨_, rfl, p, [], ρ1, m, _, _, rfl, rfl, a1, ⟨rfl, rfl, hh, rfl⟩, fun H' q a' e' => fin H' q (a'.trans F1) e'⟩
  | marks _ hh =>
    refine ⟨_, rfl, l, _, _, _, rfl, rfl, SqL.of hl, zV_at (i := 0) rfl, ?_⟩
    dsimp only [gName, tSeq]
    refine ⟨_, rfl, B.d_CALLS_WITH_SIGNS, _, rfl, .inl ⟨_, Sum.inl 7, T.d_CALLS_WITH_SIGNS, rfl, rfl⟩, _, rfl, ?_⟩
    refine iteF ?_
    dsimp only [tNext, tSeq]
    refine ⟨_, rfl, B.d_CALLS_WITH_NUMBER, _, rfl, .inl ⟨_, Sum.inl 7, T.d_CALLS_WITH_NUMBER, rfl, rfl⟩, _, rfl, ?_⟩
    refine iteF ?_
    dsimp only [tNext, tSeq]
    refine ⟨_, rfl, B.d_CALLS_ALONE, .ref B.f_marks, rfl, .inl ⟨_, Sum.inl 7, T.d_CALLS_ALONE, rfl, rfl⟩, ?_⟩
    dsimp only [gName]
    exact callV_of (D_marks T) (hr.mono (by decide)) rfl ⟨_, rfl, p, [], ρ1, m, _, _, rfl, rfl, a1, ⟨rfl, rfl, hh, rfl⟩, fun H' q a' e' => fin H' q (a'.trans F1) e'⟩
  | written _ hh =>
    refine ⟨_, rfl, l, _, _, _, rfl, rfl, SqL.of hl, zV_at (i := 0) rfl, ?_⟩
    dsimp only [gName, tSeq]
    refine ⟨_, rfl, B.d_CALLS_WITH_SIGNS, _, rfl, .inl ⟨_, Sum.inl 8, T.d_CALLS_WITH_SIGNS, rfl, rfl⟩, _, rfl, ?_⟩
    refine iteF ?_
    dsimp only [tNext, tSeq]
    refine ⟨_, rfl, B.d_CALLS_WITH_NUMBER, _, rfl, .inl ⟨_, Sum.inl 8, T.d_CALLS_WITH_NUMBER, rfl, rfl⟩, _, rfl, ?_⟩
    refine iteF ?_
    dsimp only [tNext, tSeq]
    refine ⟨_, rfl, B.d_CALLS_ALONE, .ref B.f_written, rfl, .inl ⟨_, Sum.inl 8, T.d_CALLS_ALONE, rfl, rfl⟩, ?_⟩
    dsimp only [gName]
    exact callV_of (D_written T) (hr.mono (by decide)) rfl ⟨_, rfl, p, [], ρ1, m, _, _, rfl, rfl, a1, ⟨rfl, rfl, hh, rfl⟩, fun H' q a' e' => fin H' q (a'.trans F1) e'⟩
  | whole n zs _ hz g =>
    refine ⟨_, rfl, l, _, _, _, rfl, rfl, SqL.of hl, zV_at (i := 0) rfl, ?_⟩
    dsimp only [gName, tSeq]
    refine ⟨_, rfl, B.d_CALLS_WITH_SIGNS, _, rfl, .inl ⟨_, Sum.inl 9, T.d_CALLS_WITH_SIGNS, rfl, rfl⟩, _, rfl, ?_⟩
    refine iteT ?_
    dsimp only [tNext, tSeq]
    refine ⟨_, rfl, B.d_CALLS_WITH_SIGNS, .ref B.f_whole, rfl, .inl ⟨_, Sum.inl 9, T.d_CALLS_WITH_SIGNS, rfl, rfl⟩, ?_⟩
    dsimp only [gName]
    refine callV_of (D_whole T) (hr.mono (by decide)) rfl ⟨_, rfl, _, rfl, 2, rfl, l, _, rfl, SqL.of hl, fun q hq => ?_⟩
    rw [show (some (2 : Int)) = some ((2 : Nat) : Int) from rfl, cut_lo (α := Nat), zV_drop]
    have s2 : Same H (upd H q (.lst (zV zs))) := Same.upd hq
    obtain ⟨ρ2, S2, n2⟩ := Stay.same (ρ := ρ1) s2
    obtain ⟨o, ⟨ρ3, A3, R3, F3⟩, ho⟩ := a1.same s2
    obtain ⟨o1, ⟨ρ4, A4, R4, F4⟩, ho1⟩ := id a
    obtain ⟨ρ5, S5, n5⟩ := Stay.same (ρ := ρ4) s2
    refine ⟨p, [.ref q], ρ5, m, _, _, rfl, rfl, ⟨o1, ⟨ρ5, A4, R4.keep S5 fun _ _ => trivial, Stay.refl⟩, ho1⟩, ⟨q, zs, rfl, upd_same, n5 q hq, hz, g, rfl⟩, fun H' q' a' e' => fin H' q' (a'.trans (F4.trans (S5.sub fun _ _ => trivial))) e'⟩
end
end Mr
end
section
set_option Elab.async false
set_option linter.all false
set_option maxRecDepth 100000
set_option maxHeartbeats 2000000
namespace Mr
open Vaesca (Text Token Reader Mode Home)
open PySem (sizeLine)
open Hr (wk wp)
structure PInv (m r : Reader) : Prop where
  sim : Mi.Sim m r
  cnt : m.count ≤ 16384
  bnd : Mi.Bnd (m.count + 2) m
  go : Vaesca.isDone m = false → Mi.Bnd m.count m
theorem pinv_fresh : PInv Vaesca.fresh Vaesca.fresh := ⟨Mi.sim_fresh, by decide, Mi.bnd_fresh.mono (Nat.zero_le _), fun _ => Mi.bnd_fresh⟩
theorem line_is : sizeLine = 16777216 := PySem.sizeLine_eq
theorem PInv.sm {m r : Reader} (h : PInv m r) (hd : Vaesca.isDone m = false) : Sm m := by
  have b := h.go hd
  obtain ⟨n1, n2⟩ := Mi.nd_modes hd
  have p := Mi.bx_le_phi n1 n2
  have q := b.ph
  have c := h.cnt
  have e := h.sim.eqs
  have s := line_is
  have run : m.run.length ≤ m.count := by unfold Mi.bx at p; omega
  refine ⟨by omega, by have := b.tok; omega, by have := b.att; omega, ?_, ?_, by have := b.bod; omega⟩
  · rw [e.tag]; have := h.sim.tagL; omega
  · rw [e.attr]; have := h.sim.attrL; omega
theorem PInv.pre {m r : Reader} (h : PInv m r) (hd : Vaesca.isDone m = false) : Pre m ∧ m.marks.length < sizeLine := by
  have b := h.go hd
  obtain ⟨n1, n2⟩ := Mi.nd_modes hd
  have c := h.cnt
  have e := h.sim.eqs
  have s := line_is
  have k : Mi.MOk1 r.mode r m.from_ := h.sim.ok
  rw [← e.mode] at k
  have tw : Vaesca.isTwice m = Vaesca.isTwice r := by unfold Vaesca.isTwice; rw [e.attrs, e.attr]
  refine ⟨⟨h.sm hd, n1, n2, ?_, ?_, ?_⟩, by have := b.mar; omega⟩
  · intro d q
    rw [q] at k
    exact k.2.1
  · intro q
    rw [tw]
    rcases q with q | q | q | q <;> rw [q] at k
    · exact k.2.2.2
    · exact k.2.2
    · exact k.2.2
    · exact k.2.2
  · intro q
    rw [q] at k
    have := k.2.2.1
    rw [e.body, e.count]
    omega
theorem feed_pure : ∀ (t : Text) {m r : Reader}, PInv m r → Vaesca.isDone r = false → m.count + t.length ≤ 16384 → Good m t ∧ PInv (Mi.signs m t) (Vaesca.run r t)
  | [], m, r, h, _, _ => ⟨trivial, h⟩
  | c :: t, m, r, h, hd, hn => by
    have e := h.sim.eqs
    have hdm : Vaesca.isDone m = false := e.done.trans hd
    obtain ⟨n1, n2⟩ := Mi.nd_modes hdm
    obtain ⟨pr, hmar⟩ := h.pre hdm
    obtain ⟨s1, s2⟩ := Mi.one_sign (c := c) h.sim hd
    have bs := Mi.b_sign (c := c) (h.go hdm) h.sim.emp n1 n2
    have cs := Mi.cnt_sign (m := m) (c := c)
    have hn' : m.count + (t.length + 1) ≤ 16384 := hn
    show Good m (c :: t) ∧ PInv (Mi.signs m (c :: t)) (Vaesca.run (Vaesca.eat r c) t)
    by_cases f : (Mi.sign m c).mode = .fault
    · have e1 : Mi.signs m [c] = Mi.sign m c := by rw [Mi.signs, if_pos f]
      have e2 : Mi.signs m (c :: t) = Mi.sign m c := by rw [Mi.signs, if_pos f]
      rw [e1] at s1
      refine ⟨⟨pr, hmar, fun z => (z f).elim⟩, ?_⟩
      have dn : Vaesca.isDone (Vaesca.eat r c) = true := Mi.done_of (.inr (s1.eqs.mode.symm.trans f))
      rw [e2, Mi.run_done t _ dn]
      exact ⟨s1, by rw [cs]; exact h.cnt, by rw [cs]; exact bs.mono (by omega), fun z => by rw [Mi.done_of (.inr f)] at z; cases z⟩
    · have e1 : Mi.signs m [c] = { (Mi.sign m c) with count := (Mi.sign m c).count + 1 } := by rw [Mi.signs, if_neg f]; rfl
      have e2 : Mi.signs m (c :: t) = Mi.signs { (Mi.sign m c) with count := (Mi.sign m c).count + 1 } t := by rw [Mi.signs, if_neg f]
      rw [e1] at s1
      have h1 : PInv { (Mi.sign m c) with count := (Mi.sign m c).count + 1 } (Vaesca.eat r c) := by
        have b2 : Mi.Bnd (m.count + 1) { (Mi.sign m c) with count := (Mi.sign m c).count + 1 } := ⟨bs.w, bs.ph, bs.tok, bs.att, bs.bod, bs.mar⟩
        rw [← cs] at b2
        refine ⟨s1, ?_, ?_, fun _ => b2⟩
        · show (Mi.sign m c).count + 1 ≤ _
          omega
        · exact b2.mono (Nat.le_add_right _ _)
      have hd1 : Vaesca.isDone (Vaesca.eat r c) = false := Mi.not_done s2 (fun z => f (s1.eqs.mode.trans z))
      obtain ⟨g, p⟩ := feed_pure t h1 hd1 (by show (Mi.sign m c).count + 1 + t.length ≤ _; omega)
      exact ⟨⟨pr, hmar, fun _ => g⟩, by rw [e2]; exact p⟩
theorem end_pure {m r : Reader} (h : PInv m r) (hd : Vaesca.isDone r = false) : PInv (Mi.finish m) (Vaesca.finish r) := by
  have hdm : Vaesca.isDone m = false := h.sim.eqs.done.trans hd
  have b := Mi.b_finish (h.go hdm)
  refine ⟨Mi.sim_finish h.sim hd, by rw [Mi.cnt_finish]; exact h.cnt, by rw [Mi.cnt_finish]; exact b.mono (by omega), fun z => by rw [Mi.done_finish] at z; cases z⟩
theorem tail_len (t : Token) : (tailOf t).length ≤ (Vaesca.writeToken t).length + 5 := by
  cases t with
  | text p s => have := len_writeText s; show s.length ≤ (Vaesca.writeText s).length + 5; omega
  | raw p s => show s.length ≤ s.length + 5; omega
  | closed p s => rw [Mi.len_closed]; show s.length ≤ _; omega
  | comment p s => rw [Mi.len_comment]; show s.length ≤ _; omega
  | opened p n as e =>
    have key : ∀ l : List (Text × Text), (l.flatMap fun a => Vaesca.counted a.1 ++ Vaesca.counted a.2).length ≤ (l.flatMap Vaesca.writeAttr).length := by
      intro l
      induction l with
      | nil => exact Nat.le_refl _
      | cons a l ih =>
        rw [List.flatMap_cons, List.flatMap_cons, List.length_append, List.length_append (as := Vaesca.writeAttr a)]
        have := len_writeValue a.2
        have e1 : (Vaesca.counted a.1 ++ Vaesca.counted a.2).length = a.1.length + 1 + (a.2.length + 1) := by rw [List.length_append]; rfl
        have e2 : (Vaesca.writeAttr a).length = 1 + a.1.length + 2 + (Vaesca.writeValue a.2).length + 1 := by
          unfold Vaesca.writeAttr
          rw [List.length_append, List.length_append, List.length_append, List.length_append]
          rfl
        omega
    have k := key as
    show (partsOf n as e).length ≤ ([60] ++ n ++ as.flatMap Vaesca.writeAttr ++ (if e then [47, 62] else [62])).length + 5
    unfold partsOf
    rw [List.length_cons, List.length_append, List.length_cons, List.length_append, List.length_append, List.length_append]
    have e1 : (Vaesca.counted n).length = n.length + 1 := rfl
    have e2 : ([60] : Text).length = 1 := rfl
    omega
theorem tok_le {ts : List Token} {t : Token} (h : t ∈ ts) : (Vaesca.writeToken t).length ≤ (Vaesca.written ts).length := by
  unfold Vaesca.written
  induction ts with
  | nil => cases h
  | cons x ts ih =>
    rw [List.flatMap_cons, List.length_append]
    rcases List.mem_cons.mp h with e | e
    · rw [e]; omega
    · have := ih e; omega
theorem PInv.wl {m r : Reader} (h : PInv m r) : (Vaesca.written m.tokens).length ≤ 98316 := by
  have := h.bnd.w
  have := h.cnt
  unfold Mi.W at *
  omega
inductive Form : List Int → List (List Int) → Prop
  | zero (z : Int) (h : z = 0 ∨ z = 2 ∨ z = 3 ∨ z = 4 ∨ z = 6 ∨ z = 7 ∨ z = 8) : Form [z] [[z]]
  | num (i : Int) : Form [5, i] [[5, i]]
  | row (z n : Int) (zs : List Int) (h : z = 1 ∨ z = 9) (hl : zs.length ≤ 30000) : Form (z :: n :: zs) [[z], zs]
theorem told_of {m r : Reader} (e : Mi.Eqs m r) : [(Vaesca.faulty m : Int)] = VaescaNeutral.encode (.told [Vaesca.faulty r]) := by rw [e.faulty]; rfl
theorem feed_eq {m r : Reader} {zs : List Int} (h : PInv m r) : PInv (feedM m zs).1 (Vaesca.feed r zs).1 ∧ (feedM m zs).2 = VaescaNeutral.encode (Vaesca.feed r zs).2 ∧ (feedM m zs).2.length = 1 ∧ (Vaesca.isDone m = false → refusal zs m.count = 0 → Good m (Vaesca.signsOf zs)) := by
  have e := h.sim.eqs
  have ed := e.done
  have sl : (Vaesca.signsOf zs).length = zs.length := List.length_map _
  have gd : Vaesca.isDone m = false → refusal zs m.count = 0 → Good m (Vaesca.signsOf zs) ∧ PInv (Mi.signs m (Vaesca.signsOf zs)) (Vaesca.run r (Vaesca.signsOf zs)) := fun h1 h2 => by
    obtain ⟨_, h3⟩ := refusal_zero h2
    exact feed_pure _ h (ed.symm.trans h1) (by rw [sl]; exact h3)
  refine ⟨?_, ?_, ?_, fun h1 h2 => (gd h1 h2).1⟩
  · unfold feedM Vaesca.feed
    rw [ed]
    cases hd : Vaesca.isDone r with
    | true => exact h
    | false =>
      simp only [Bool.false_eq_true, if_false]
      unfold refusal at *
      rw [← e.count]
      cases ha : zs.all Vaesca.isSign with
      | false => exact h
      | true =>
        simp only [if_true, Bool.not_true, Bool.false_eq_true, if_false]
        by_cases hn : 16384 < m.count + zs.length
        · rw [if_pos hn, if_neg (by decide), if_pos (show Vaesca.MOST < m.count + zs.length from hn)]
          exact h
        · rw [if_neg hn, if_pos rfl, if_neg (show ¬ Vaesca.MOST < m.count + zs.length from hn)]
          exact (gd (ed.trans hd) (by rw [ha, if_pos rfl, if_neg hn])).2
  · unfold feedM Vaesca.feed
    rw [ed]
    cases hd : Vaesca.isDone r with
    | true => rfl
    | false =>
      simp only [Bool.false_eq_true, if_false]
      unfold refusal at *
      rw [← e.count]
      cases ha : zs.all Vaesca.isSign with
      | false => rfl
      | true =>
        simp only [if_true, Bool.not_true, Bool.false_eq_true, if_false]
        by_cases hn : 16384 < m.count + zs.length
        · rw [if_pos hn, if_neg (by decide), if_pos (show Vaesca.MOST < m.count + zs.length from hn)]
          rfl
        · rw [if_neg hn, if_pos rfl, if_neg (show ¬ Vaesca.MOST < m.count + zs.length from hn)]
          exact told_of (gd (ed.trans hd) (by rw [ha, if_pos rfl, if_neg hn])).2.sim.eqs
  · unfold feedM
    split
    · rfl
    · split <;> rfl
theorem whole_eq {m r : Reader} {zs : List Int} (h : PInv m r) : PInv (wholeM m zs).1 (Vaesca.whole r zs).1 ∧ (wholeM m zs).2 = VaescaNeutral.encode (Vaesca.whole r zs).2 ∧ (wholeM m zs).2.length = 1 ∧
    (refusal zs 0 = 0 → Good Vaesca.fresh (Vaesca.signsOf zs) ∧ ((Mi.signs Vaesca.fresh (Vaesca.signsOf zs)).mode ≠ .fault → Sm (Mi.signs Vaesca.fresh (Vaesca.signsOf zs)))) := by
  have sl : (Vaesca.signsOf zs).length = zs.length := List.length_map _
  have gd : refusal zs 0 = 0 → Good Vaesca.fresh (Vaesca.signsOf zs) ∧ PInv (Mi.signs Vaesca.fresh (Vaesca.signsOf zs)) (Vaesca.run Vaesca.fresh (Vaesca.signsOf zs)) := fun h2 => by
    obtain ⟨_, h3⟩ := refusal_zero h2
    exact feed_pure _ pinv_fresh rfl (by rw [sl]; show 0 + _ ≤ _; omega)
  have ne : ∀ h2 : refusal zs 0 = 0, (Vaesca.run Vaesca.fresh (Vaesca.signsOf zs)).mode ≠ .ended := fun _ => (Mi.sim_signs _ Mi.sim_fresh rfl).2
  have nd : ∀ h2 : refusal zs 0 = 0, (Mi.signs Vaesca.fresh (Vaesca.signsOf zs)).mode ≠ .fault → Vaesca.isDone (Vaesca.run Vaesca.fresh (Vaesca.signsOf zs)) = false := fun h2 f =>
    Mi.not_done (ne h2) (fun z => f ((gd h2).2.sim.eqs.mode.trans z))
  have fd : ∀ h2 : refusal zs 0 = 0, (Mi.signs Vaesca.fresh (Vaesca.signsOf zs)).mode = .fault → Vaesca.read (Vaesca.signsOf zs) = Vaesca.run Vaesca.fresh (Vaesca.signsOf zs) := fun h2 f => by
    unfold Vaesca.read Vaesca.finish
    rw [if_pos (Mi.done_of (.inr ((gd h2).2.sim.eqs.mode.symm.trans f)))]
  have res : ∀ h2 : refusal zs 0 = 0, PInv (if (Mi.signs Vaesca.fresh (Vaesca.signsOf zs)).mode = .fault then Mi.signs Vaesca.fresh (Vaesca.signsOf zs) else Mi.finish (Mi.signs Vaesca.fresh (Vaesca.signsOf zs))) (Vaesca.read (Vaesca.signsOf zs)) := fun h2 => by
    split
    · rename_i f
      rw [fd h2 f]
      exact (gd h2).2
    · rename_i f
      exact end_pure (gd h2).2 (nd h2 f)
  refine ⟨?_, ?_, ?_, fun h2 => ⟨(gd h2).1, fun f => (gd h2).2.sm ((gd h2).2.sim.eqs.done.trans (nd h2 f))⟩⟩
  · by_cases h2 : refusal zs 0 = 0
    · obtain ⟨h3, h4⟩ := refusal_zero h2
      have r1 := res h2
      have e1 : (wholeM m zs).1 = (if (Mi.signs Vaesca.fresh (Vaesca.signsOf zs)).mode = .fault then Mi.signs Vaesca.fresh (Vaesca.signsOf zs) else Mi.finish (Mi.signs Vaesca.fresh (Vaesca.signsOf zs))) := by
        unfold wholeM; rw [if_pos h2]; split <;> rfl
      have e2 : (Vaesca.whole r zs).1 = Vaesca.read (Vaesca.signsOf zs) := by
        unfold Vaesca.whole
        rw [h3]
        simp only [Bool.not_true, Bool.false_eq_true, if_false]
        rw [if_neg (show ¬ Vaesca.MOST < zs.length by show ¬ 16384 < _; omega)]
        rfl
      rw [e1, e2]
      exact r1
    · have e1 : (wholeM m zs).1 = m := by unfold wholeM; rw [if_neg h2]
      have e2 : (Vaesca.whole r zs).1 = r := by
        unfold Vaesca.whole
        unfold refusal at h2
        cases ha : zs.all Vaesca.isSign with
        | false => rfl
        | true =>
          rw [ha, if_pos rfl] at h2
          simp only [Bool.not_true, Bool.false_eq_true, if_false]
          by_cases hn : 16384 < 0 + zs.length
          · rw [if_pos (show Vaesca.MOST < zs.length by show 16384 < _; omega)]
          · rw [if_neg hn] at h2; exact (h2 rfl).elim
      rw [e1, e2]
      exact h
  · by_cases h2 : refusal zs 0 = 0
    · obtain ⟨h3, h4⟩ := refusal_zero h2
      have r1 := (res h2).sim.eqs
      have e1 : (wholeM m zs).2 = [(Vaesca.faulty (if (Mi.signs Vaesca.fresh (Vaesca.signsOf zs)).mode = .fault then Mi.signs Vaesca.fresh (Vaesca.signsOf zs) else Mi.finish (Mi.signs Vaesca.fresh (Vaesca.signsOf zs))) : Int)] := by
        unfold wholeM; rw [if_pos h2]; split <;> rfl
      have e2 : (Vaesca.whole r zs).2 = .told [Vaesca.faulty (Vaesca.read (Vaesca.signsOf zs))] := by
        unfold Vaesca.whole
        rw [h3]
        simp only [Bool.not_true, Bool.false_eq_true, if_false]
        rw [if_neg (show ¬ Vaesca.MOST < zs.length by show ¬ 16384 < _; omega)]
        rfl
      rw [e1, e2]
      exact told_of r1
    · have e1 : (wholeM m zs).2 = [refusal zs 0] := by unfold wholeM; rw [if_neg h2]
      rw [e1]
      unfold Vaesca.whole
      unfold refusal at h2 ⊢
      cases ha : zs.all Vaesca.isSign with
      | false => rfl
      | true =>
        rw [ha, if_pos rfl] at h2
        simp only [Bool.not_true, Bool.false_eq_true, if_false, if_true]
        by_cases hn : 16384 < 0 + zs.length
        · rw [if_pos hn, if_pos (show Vaesca.MOST < zs.length by show 16384 < _; omega)]
          rfl
        · rw [if_neg hn] at h2; exact (h2 rfl).elim
  · unfold wholeM
    split
    · split <;> rfl
    · rfl
theorem call_pure {m r : Reader} {sl : List Int} {c : List (List Int)} (h : PInv m r) (f : Form sl c) :
    ∃ (m' : Reader) (ans : List Int), CallR sl m m' ans ∧ PInv m' (VaescaNeutral.step r (PyVaesca.whole c)).1 ∧ ans = (VaescaNeutral.step r (PyVaesca.whole c)).2 ∧ ans.length ≤ 100000 := by
  have e := h.sim.eqs
  have wl := h.wl
  have cn := h.cnt
  have s := line_is
  cases f with
  | zero z hz =>
    rcases hz with rfl | rfl | rfl | rfl | rfl | rfl | rfl
    · exact ⟨_, _, .begin m, pinv_fresh, rfl, by decide⟩
    · refine ⟨_, _, .fin m (fun hd => h.sm hd), ?_, ?_, ?_⟩
      · show PInv (endM m).1 (if Vaesca.isDone r then (r, Vaesca.Answer.refused 2) else Vaesca.told (Vaesca.finish r)).1
        unfold endM
        rw [e.done]
        cases hd : Vaesca.isDone r with
        | true => exact h
        | false => exact end_pure h hd
      · show (endM m).2 = VaescaNeutral.encode (if Vaesca.isDone r then (r, Vaesca.Answer.refused 2) else Vaesca.told (Vaesca.finish r)).2
        unfold endM
        rw [e.done]
        cases hd : Vaesca.isDone r with
        | true => rfl
        | false => exact told_of (end_pure h hd).sim.eqs
      · unfold endM; split <;> exact (by decide : 1 ≤ 100000)
    · refine ⟨_, _, .fault m, h, ?_, (by decide : 2 ≤ 100000)⟩
      show [(wk m : Int), (wp m : Int)] = (Vaesca.shownFault r).map Int.ofNat
      unfold wk wp Vaesca.shownFault
      rw [e.wrong]
      cases r.wrong with
      | none => rfl
      | some x => rfl
    · refine ⟨_, _, .tokens m, h, ?_, (by decide : 1 ≤ 100000)⟩
      show [(m.tokens.length : Int)] = [Int.ofNat r.tokens.length]
      rw [e.tokens]; rfl
    · have hb := h.bnd.bod
      have ht := h.sim.tagL
      have ha := h.sim.attrL
      refine ⟨_, _, .state m (by rw [e.tag, e.attr]; omega), h, ?_, ?_⟩
      · show (Vaesca.shownState m).map Int.ofNat = (Vaesca.shownState r).map Int.ofNat
        unfold Vaesca.shownState
        rw [e.mode, e.count, e.attrs, e.tag, e.attr, e.body]
      · rw [List.length_map]
        unfold Vaesca.shownState
        rw [List.length_append, List.length_append, List.length_append, e.tag, e.attr]
        show 3 + (r.tag.length + 1) + (r.attr.length + 1) + (m.body.length + 1) ≤ _
        omega
    · have hm := h.bnd.mar
      refine ⟨_, _, .marks m (by omega), h, ?_, ?_⟩
      · show _ = (r.marks.length :: r.marks.flatMap fun q => [q.1, q.2]).map Int.ofNat
        rw [e.marks]
      · have hlen : ∀ l : List (Nat × Nat), (l.flatMap fun q => [q.1, q.2]).length = 2 * l.length := by
          intro l
          induction l with
          | nil => rfl
          | cons x l ih => rw [List.flatMap_cons, List.length_append, ih, List.length_cons]; show 2 + 2 * l.length = 2 * (l.length + 1); omega
        rw [List.length_map, List.length_cons, hlen]
        omega
    · refine ⟨_, _, .written m (by omega), h, ?_, ?_⟩
      · show _ = (Vaesca.counted (Vaesca.written r.tokens)).map Int.ofNat
        rw [e.tokens]
      · rw [List.length_map]
        show (Vaesca.written m.tokens).length + 1 ≤ _
        omega
  | num i =>
    have tl : ∀ t ∈ m.tokens, (tailOf t).length ≤ 98321 := fun t ht => by
      have := tail_len t
      have := tok_le ht
      omega
    refine ⟨_, _, .token i m (fun t ht => by have := tl t ht; omega), h, ?_, ?_⟩
    · show tokenAns m i = VaescaNeutral.encode (Vaesca.token r i)
      unfold tokenAns Vaesca.token
      rw [e.tokens]
      split
      · rfl
      · cases r.tokens[i.toNat]? <;> rfl
    · unfold tokenAns
      split
      · exact (by decide : 1 ≤ 100000)
      · cases q : m.tokens[i.toNat]? with
        | none => exact (by decide : 1 ≤ 100000)
        | some t =>
          have := tl t (List.mem_of_getElem? q)
          show ((Vaesca.shownToken t).map Int.ofNat).length ≤ _
          rw [List.length_map, shown_eq, List.length_cons, List.length_cons]
          omega
  | row z n zs hz hl =>
    rcases hz with rfl | rfl
    · obtain ⟨h1, h2, h3, h4⟩ := feed_eq (zs := zs) h
      exact ⟨_, _, .feed n zs m (by omega) h4, h1, h2, by omega⟩
    · obtain ⟨h1, h2, h3, h4⟩ := whole_eq (zs := zs) h
      exact ⟨_, _, .whole n zs m (by omega) h4, h1, h2, by omega⟩
theorem shape_some {z : Int} {n k : Nat} (h : PyVaesca.shape z = some (n, k)) : (n = 0 ∧ k = 0 ∧ (z = 0 ∨ z = 2 ∨ z = 3 ∨ z = 4 ∨ z = 6 ∨ z = 7 ∨ z = 8)) ∨ (n = 1 ∧ k = 0 ∧ z = 5) ∨ (n = 0 ∧ k = 1 ∧ (z = 1 ∨ z = 9)) := by
  unfold PyVaesca.shape at h
  split at h
  · cases h; rename_i e; exact .inl ⟨rfl, rfl, .inl e⟩
  split at h
  · cases h; rename_i e; exact .inr (.inr ⟨rfl, rfl, .inl e⟩)
  split at h
  · cases h; rename_i e; exact .inl ⟨rfl, rfl, .inr (.inl e)⟩
  split at h
  · cases h; rename_i e; exact .inl ⟨rfl, rfl, .inr (.inr (.inl e))⟩
  split at h
  · cases h; rename_i e; exact .inl ⟨rfl, rfl, .inr (.inr (.inr (.inl e)))⟩
  split at h
  · cases h; rename_i e; exact .inr (.inl ⟨rfl, rfl, e⟩)
  split at h
  · cases h; rename_i e; exact .inl ⟨rfl, rfl, .inr (.inr (.inr (.inr (.inl e))))⟩
  split at h
  · cases h; rename_i e; exact .inl ⟨rfl, rfl, .inr (.inr (.inr (.inr (.inr (.inl e)))))⟩
  split at h
  · cases h; rename_i e; exact .inl ⟨rfl, rfl, .inr (.inr (.inr (.inr (.inr (.inr e)))))⟩
  split at h
  · cases h; rename_i e; exact .inr (.inr ⟨rfl, rfl, .inr e⟩)
  · cases h
theorem drop_at {zs : List Int} {i : Nat} {z : Int} {r : List Int} (h : zs.drop i = z :: r) : zs[i]? = some z ∧ (∀ j, zs[i + 1 + j]? = r[j]?) ∧ (∀ k, zs.drop (i + 1 + k) = r.drop k) ∧ r.length + i + 1 = zs.length := by
  have h0 : zs[i]? = some z := by
    have := List.getElem?_drop (xs := zs) (i := i) (j := 0)
    rw [h] at this
    exact this.symm
  have h1 : zs.drop (i + 1) = r := by
    rw [← List.drop_drop, h]; rfl
  refine ⟨h0, fun j => ?_, fun k => ?_, ?_⟩
  · rw [← h1, List.getElem?_drop]
  · rw [← h1, List.drop_drop]
  · have := congrArg List.length h
    rw [List.length_drop, List.length_cons] at this
    have := (List.getElem?_eq_some_iff.mp h0).1
    omega
theorem turn_pure {m r : Reader} {zs : List Int} {i f : Nat} {cs : List (List (List Int))} (h : PInv m r) (hi : i < zs.length) (hc : PyFlat.calls PyVaesca.shape f (zs.drop i) = some cs) (hl : zs.length ≤ 30000) :
    ∃ (c : List (List Int)) (cs' : List (List (List Int))) (f' : Nat) (m' : Reader) (ans : List Int) (z : Int) (k : Nat), cs = c :: cs' ∧ zs[i]? = some z ∧ (z = 1 ∨ z = 9 → ∃ n, zs[i + 1]? = some n) ∧ lenCall zs i = (k : Int) ∧ 1 ≤ k ∧ i + k ≤ zs.length ∧
      PyFlat.calls PyVaesca.shape f' (zs.drop (i + k)) = some cs' ∧ CallR ((zs.drop i).take k) m m' ans ∧ PInv m' (VaescaNeutral.step r (PyVaesca.whole c)).1 ∧ ans = (VaescaNeutral.step r (PyVaesca.whole c)).2 ∧ ans.length ≤ 100000 := by
  obtain ⟨z, t, hd⟩ : ∃ z t, zs.drop i = z :: t := by
    cases q : zs.drop i with
    | nil => have := List.drop_eq_nil_iff.mp q; omega
    | cons z t => exact ⟨z, t, rfl⟩
  obtain ⟨h0, h1, h2, h3⟩ := drop_at hd
  rw [hd] at hc ⊢
  cases f with
  | zero => cases hc
  | succ f =>
    rw [PyFlat.calls] at hc
    cases e1 : PyFlat.call PyVaesca.shape (z :: t) with
    | none => rw [e1] at hc; cases hc
    | some ct =>
      obtain ⟨c, u⟩ := ct
      rw [e1] at hc
      dsimp only at hc
      cases e2 : PyFlat.calls PyVaesca.shape f u with
      | none => rw [e2] at hc; cases hc
      | some cs' =>
        rw [e2] at hc
        have ecs : cs = c :: cs' := (Option.some.inj hc).symm
        -- the call's form
        have key : ∃ k : Nat, 1 ≤ k ∧ i + k ≤ zs.length ∧ zs.drop (i + k) = u ∧ lenCall zs i = (k : Int) ∧ (z = 1 ∨ z = 9 → ∃ n, zs[i + 1]? = some n) ∧ Form ((z :: t).take k) c := by
          rw [PyFlat.call] at e1
          cases e3 : PyVaesca.shape z with
          | none => rw [e3] at e1; cases e1
          | some nk =>
            obtain ⟨n, k⟩ := nk
            rw [e3] at e1
            dsimp only at e1
            have l0 := h1 0
            have lc : lenCall zs i = (match t[0]? with | some n => if z = 1 ∨ z = 9 then 2 + n else if z = 5 then 2 else 1 | none => if z = 5 then 2 else 1) := by
              unfold lenCall
              rw [h0, show zs[i + 1]? = t[0]? from l0]
              cases t[0]? <;> rfl
            rcases shape_some e3 with ⟨rfl, rfl, hz⟩ | ⟨rfl, rfl, rfl⟩ | ⟨rfl, rfl, hz⟩
            · have e4 : some (([z] :: [] : List (List Int)), t) = some (c, u) := e1
              cases e4
              have n19 : ¬ (z = 1 ∨ z = 9) := by rcases hz with rfl | rfl | rfl | rfl | rfl | rfl | rfl <;> decide
              have n5 : ¬ z = 5 := by rcases hz with rfl | rfl | rfl | rfl | rfl | rfl | rfl <;> decide
              refine ⟨1, Nat.le_refl 1, by omega, h2 0, ?_, fun q => (n19 q).elim, .zero z hz⟩
              rw [lc]
              cases t[0]? with
              | none => show (if z = 5 then 2 else 1 : Int) = _; rw [if_neg n5]; rfl
              | some n => show (if z = 1 ∨ z = 9 then 2 + n else if z = 5 then 2 else 1 : Int) = _; rw [if_neg n19, if_neg n5]; rfl
            · cases t with
              | nil => cases e1
              | cons x t =>
                have e4 : some (([5, x] :: [] : List (List Int)), t) = some (c, u) := e1
                cases e4
                refine ⟨2, by decide, by rw [List.length_cons] at h3; omega, h2 1, ?_, (fun q => by rcases q with q | q <;> cases q), .num x⟩
                rw [lc]; rfl
            · cases t with
              | nil => cases e1
              | cons n t =>
                by_cases g : 0 ≤ n ∧ n.toNat ≤ t.length
                · have e5 : PyFlat.row (n :: t) = some (t.take n.toNat, t.drop n.toNat) := by rw [PyFlat.row, if_pos g]
                  have e6 : PyFlat.rows 1 (n :: t) = some ([t.take n.toNat], t.drop n.toNat) := by
                    rw [PyFlat.rows, e5]; rfl
                  have e4 : some (([z] :: [t.take n.toNat] : List (List Int)), t.drop n.toNat) = some (c, u) := by
                    rw [← e1]
                    rw [if_neg (Nat.not_lt_zero _), List.drop_zero, e6]
                    rfl
                  cases e4
                  rw [List.length_cons] at h3
                  refine ⟨2 + n.toNat, by omega, by omega, ?_, ?_, fun _ => ⟨n, l0⟩, ?_⟩
                  · have := h2 (1 + n.toNat)
                    rw [show i + (2 + n.toNat) = i + 1 + (1 + n.toNat) by omega, this, Nat.add_comm 1 n.toNat]
                    rfl
                  · rw [lc]
                    show (if z = 1 ∨ z = 9 then 2 + n else if z = 5 then 2 else 1 : Int) = _
                    rw [if_pos hz]
                    omega
                  · rw [Nat.add_comm 2 n.toNat]
                    show Form (z :: n :: t.take n.toNat) _
                    exact .row z n _ hz (by rw [List.length_take]; omega)
                · have e5 : PyFlat.row (n :: t) = none := by rw [PyFlat.row, if_neg g]
                  have e6 : PyFlat.rows 1 (n :: t) = none := by rw [PyFlat.rows, e5]
                  rw [if_neg (Nat.not_lt_zero _), List.drop_zero, e6] at e1
                  cases e1
        obtain ⟨k, k1, k2, k3, k4, k5, k6⟩ := key
        obtain ⟨m', ans, a1, a2, a3, a4⟩ := call_pure h k6
        exact ⟨c, cs', f, m', ans, z, k, ecs, h0, k5, k4, k1, k2, by rw [k3]; exact e2, a1, a2, a3, a4⟩
end Mr
end
section
set_option Elab.async false
set_option linter.all false
set_option maxRecDepth 100000
set_option maxHeartbeats 2000000
namespace Mr
open PySem PySem.Spec PyProof.Rows L2 Hr
open Vaesca (Text Token Reader Mode Home)
def spAns (K : PySem.W.Frag) : Sp := fun vs H Q _ => ∃ (l : Addr) (zs : List Int), vs = [.ref l] ∧ SqL K H l (zV zs) ∧ zs.length ≤ 30000 ∧ PyVaesca.answers_asked zs = true ∧ ∀ H' q, H' q = some (.lst (zV (PyVaesca.answers zs))) → Q (.ref q) H'
theorem asked_calls {zs : List Int} (h : PyVaesca.answers_asked zs = true) : ∃ cs, PyFlat.calls PyVaesca.shape zs.length zs = some cs ∧ cs.length ≤ 100 ∧ PyVaesca.answers zs = PyFlat.told (PyFlat.played VaescaNeutral.step VaescaNeutral.start (cs.map PyVaesca.whole)) := by
  unfold PyVaesca.answers_asked PyVaesca.calls at h
  unfold PyVaesca.answers PyVaesca.calls
  cases e : PyFlat.calls PyVaesca.shape zs.length zs with
  | none => rw [e] at h; cases h
  | some cs =>
    rw [e] at h
    have h2 : (PyFlat.atMost 100 (cs.map PyVaesca.whole) && VaescaNeutral.asked (cs.map PyVaesca.whole)) = true := h
    rw [Bool.and_eq_true] at h2
    have h3 : decide ((cs.map PyVaesca.whole).length ≤ 100) = true := h2.1
    have h4 := of_decide_eq_true h3
    rw [List.length_map] at h4
    exact ⟨cs, rfl, h4, rfl⟩
theorem sql_keep {K : PySem.W.Frag} {ρ ρ' : Lab} {H H' : Hp} {l : Addr} {xs : List V} (h : SqL K H l xs) (hρ : ∀ o, H l = some o → ρ l = 0) (F : Hr.Fr ρ H ρ' H') : SqL K H' l xs ∧ ((∃ o, H l = some o) → ρ' l = 0) := by
  refine ⟨?_, fun ⟨o, e⟩ => (F l o e (hρ o e)).2.trans (hρ o e)⟩
  rcases h with (h | ⟨o, h⟩) | h
  · exact .inl (.inl (F l _ h (hρ _ h)).1)
  · exact .inl (.inr ⟨o, (F l _ h (hρ _ h)).1⟩)
  · exact .inr h
theorem cut_mid (xs : List V) (i k : Nat) (h : i + k ≤ xs.length) : cutV xs (some (i : Int)) (some ((i + k : Nat) : Int)) = (xs.drop i).take k := by
  unfold cutV
  rw [HT.sIx_nat, HT.sIx_nat, Nat.min_eq_left (show i ≤ xs.length by omega), Nat.min_eq_left h, Nat.add_sub_cancel_left]
def mu3 (n : Nat) (σ : L2.St) : Nat := match σ[3]? with
  | some (some (V.int i)) => n - i.toNat
  | _ => 0
section
variable {P : Program} {w : World} {K : PySem.W.Frag} {mg : Str → Option Value} {base : Heap} {B : Adr}
theorem ok_answers (T : Tx P w K mg B) {fd : FuncData} (F0 : Fun K "answers" "answers" s_answers B.f_answers fd) : FnOk P w K mg base CX0 11 B.f_answers fd ["calls"] (spAns K) := by
  have D_Reader_init := D_Reader_init (base := base) T
  have D_length_of_call := D_length_of_call (base := base) T
  have D_with_length := D_with_length (base := base) T
  have D_answer_of := D_answer_of (base := base) T
  refine F0.ok sc_answers ?_ fun cdv A0 outer s0 H vs Q E hr h => ?_
  · rintro vs H Q E ⟨l, zs, rfl, _⟩
    rfl
  obtain ⟨l, zs, rfl, hS, hz, hask, fin⟩ := h
  obtain ⟨cs, hcs, hn, hans⟩ := asked_calls hask
  rw [hans] at fin
  refine ⟨_, (pss_cons (ps_set (i := 1) sc_answers.nd rfl (Or.inl rfl) (pmake0 D_Reader_init (hr.mono (by decide)) rfl T.g_Reader)) (pss_cons (ps_set (i := 2) sc_answers.nd rfl (Or.inl rfl) (pe_lst pa_nil)) (pss_cons (ps_set (i := 3) sc_answers.nd rfl (Or.inl rfl) pe_int) (pss_cons (ps_while PassesOwn.never (pt_cmpR op_lt (pv 3) (pe_callB call_len rfl T.n_len PySem.boot_len (pa_cons (pv 0) pa_nil)) (nomark _)) (pss_cons (ps_set (i := 4) sc_answers.nd rfl (Or.inl rfl) (pe_op op_add (pv 3) (pcall D_length_of_call (hr.mono (by decide)) rfl (pa_cons (pv 0) (pa_cons (pv 3) pa_nil))))) (pss_cons (ps_expr (pe_bm PySem.F.plainAttrs_list PySem.F.slot_list_extend PySem.F.type_list_extend mt_extend (pv 2) (pa_cons (pcall D_with_length (hr.mono (by decide)) rfl (pa_cons (pcall D_answer_of (hr.mono (by decide)) rfl (pa_cons (pv 1) (pa_cons (pe_slice sl_list (pv 0) (po_some (pv 3)) (po_some (pv 4))) pa_nil))) pa_nil)) pa_nil))) (pss_one (ps_set (i := 3) sc_answers.nd rfl (Or.inl rfl) (pv 4)))))) (pss_one (ps_ret (pv 2))))))), ?_⟩
  dsimp only [tSeq]
  -- reader = Reader()
  intro p dx hp hdx hne
  have S0 : Same H (upd (upd H dx (.own p)) p (.ins B.C_Reader dx [])) := fun b o e => by rw [upd_ne (ne_of_none e hp), upd_ne (ne_of_none e hdx)]; exact e
  refine ⟨p, dx, fun b => if b = p then 2 else 0, rfl, upd_same, if_pos rfl, fun H1 a1 => ⟨rfl, ?_⟩⟩
  dsimp only [gName, tSeq]
  -- answered = []
  refine ⟨Nat.zero_le _, fun q hq => ?_⟩
  dsimp only [gName, tSeq]
  have lab0 : ∀ o, (upd (upd H dx (.own p)) p (.ins B.C_Reader dx [])) l = some o → (∃ o, H l = some o) → (if l = p then 2 else 0 : Nat) = 0 := fun o _ ⟨o', e'⟩ => if_neg (ne_of_none e' hp)
  -- what holds at each turn
  have start : ∃ ρ, Wh (CB B) ρ (upd H1 q (.lst [])) p Vaesca.fresh (upd H1 q (.lst [])) ∧ ρ q = 0 ∧ SqL K (upd H1 q (.lst [])) l (zV zs) ∧ ((∃ o, H l = some o) → ρ l = 0 ∧ l ≠ q ∧ ∃ o, upd H1 q (.lst []) l = some o) := by
    obtain ⟨o, ⟨ρ1, A1, R1, F1⟩, ho⟩ := a1
    obtain ⟨ρ2, S2, n2⟩ := Stay.same (ρ := ρ1) (Same.upd (ob := .lst []) hq)
    have tracked : ∀ ob, H l = some ob → upd H1 q (.lst []) l = some ob ∧ ρ2 l = 0 ∧ l ≠ q := fun ob e => by
      obtain ⟨g1, g2⟩ := F1 l ob (S0 _ _ e) (if_neg (ne_of_none e hp))
      obtain ⟨g3, g4⟩ := S2 l ob g1 trivial
      exact ⟨g3, g4.trans (g2.trans (if_neg (ne_of_none e hp))), ne_of_none g1 hq⟩
    refine ⟨ρ2, ⟨o, ⟨ρ2, A1, R1.keep S2 fun _ _ => trivial, Stay.refl⟩, ho⟩, n2 q hq, ?_, fun ⟨ob, e⟩ => ⟨(tracked ob e).2.1, (tracked ob e).2.2, ob, (tracked ob e).1⟩⟩
    rcases hS with (h | ⟨ob, h⟩) | h
    · exact .inl (.inl (tracked _ h).1)
    · exact .inl (.inr ⟨ob, (tracked _ h).1⟩)
    · exact .inr h
  generalize hH2 : upd H1 q (.lst []) = H2 at start
  have hq2 : H2 q = some (.lst []) := by rw [← hH2]; exact upd_same
  obtain ⟨ρ2, a2, l2, s2, t2⟩ := start
  refine while_by (fun σ H' => ∃ (i : Nat) (m r : Reader) (cs' : List (List (List Int))) (f : Nat) (acc : List Int) (ρ : Lab) (v4 : Option V), σ = [some (.ref l), some (.ref p), some (.ref q), some (.int (i : Int)), v4] ∧ i ≤ zs.length ∧ PInv m r ∧
      PyFlat.calls PyVaesca.shape f (zs.drop i) = some cs' ∧ PyFlat.told (PyFlat.played VaescaNeutral.step VaescaNeutral.start (cs.map PyVaesca.whole)) = acc ++ PyFlat.told (PyFlat.played VaescaNeutral.step r (cs'.map PyVaesca.whole)) ∧ acc.length + cs'.length * 100001 ≤ 100 * 100001 ∧
      Wh (CB B) ρ H' p m H' ∧ ρ q = 0 ∧ H' q = some (.lst (zV acc)) ∧ SqL K H' l (zV zs) ∧ ((∃ o, H l = some o) → ρ l = 0 ∧ l ≠ q ∧ ∃ o, H' l = some o))
    (fun σ _ => mu3 zs.length σ) ?_ ?_ ?_
  · exact ⟨0, Vaesca.fresh, Vaesca.fresh, cs, zs.length, [], ρ2, none, rfl, Nat.zero_le _, pinv_fresh, hcs, rfl, by show 0 + _ ≤ _; omega, a2, l2, hq2, s2, t2⟩
  · rintro σ H3 ⟨i, m, r, cs', f, acc, ρ, v4, rfl, hi, hP, hcl, htold, hacc, a3, l3, hq3, s3, t3⟩
    refine ⟨_, rfl, _, rfl, _, _, rfl, .inl ⟨_, s3, rfl⟩, _, _, rfl, rfl, _, rfl, ?_⟩
    rw [show (zV zs).length = zs.length from List.length_map _]
    by_cases hlt : i < zs.length
    · rw [decide_eq_true (show (i : Int) < (zs.length : Int) by omega)]
      refine iteT ?_
      obtain ⟨c, cs2, f2, m', ans, z, k, rfl, hz1, hz2, hk, hk1, hk2, hcl2, hcall, hP2, rfl, hlen⟩ := turn_pure hP hlt hcl hz
      have mu := mil
      have sl : 100 * 100001 ≤ sizeLine := by decide
      dsimp only [tSeq]
      refine ⟨_, rfl, _, rfl, _, rfl, l, zs, i, z, rfl, s3, hz1, hz2, _, _, rfl, rfl, ?_⟩
      rw [hk]
      dsimp only [gName, tSeq]
      have eb : (i : Int) + (k : Int) = ((i + k : Nat) : Int) := by omega
      rw [eb]
      refine ⟨_, rfl, .inl ⟨rfl, _, SqL.of hq3⟩, _, rfl, _, rfl, _, rfl, _, rfl, _, rfl, _, rfl, l, _, rfl, s3, fun y hy => ?_⟩
      rw [cut_mid _ _ _ (by rw [show (zV zs).length = zs.length from List.length_map _]; exact hk2), zV_drop, zV_take]
      obtain ⟨o, ⟨ρ3, A3, R3, F3⟩, ho⟩ := id a3
      obtain ⟨ρ4, S4, n4⟩ := Stay.same (ρ := ρ3) (Same.upd (ob := .lst (zV ((zs.drop i).take k))) hy)
      have keep4 : ∀ b ob, H3 b = some ob → ρ b = 0 → upd H3 y (.lst (zV ((zs.drop i).take k))) b = some ob ∧ ρ4 b = 0 := fun b ob e e' => by
        obtain ⟨g1, g2⟩ := F3 b ob e e'
        obtain ⟨g3, g4⟩ := S4 b ob g1 trivial
        exact ⟨g3, g4.trans (g2.trans e')⟩
      refine ⟨p, [.ref y], ρ4, m, m', _, rfl, rfl, ⟨o, ⟨ρ4, A3, R3.keep S4 fun _ _ => trivial, Stay.refl⟩, ho⟩, ⟨y, _, rfl, upd_same, hcall⟩, fun H5 u a5 e5 => ?_⟩
      obtain ⟨o5, ⟨ρ5, A5, R5, F5⟩, ho5⟩ := a5
      have zl : ∀ l : List Int, (zV l).length = l.length := fun l => List.length_map _
      refine ⟨u, _, rfl, .inl (SqL.of e5), by rw [zl]; omega, fun H6 v s6 n6 e6 => ?_⟩
      obtain ⟨ρ6, S6, n6'⟩ := Stay.same (ρ := ρ5) s6
      have keep6 : ∀ b ob, H3 b = some ob → ρ b = 0 → H6 b = some ob ∧ ρ6 b = 0 := fun b ob e e' => by
        obtain ⟨g1, g2⟩ := keep4 b ob e e'
        obtain ⟨g3, g4⟩ := F5 b ob g1 g2
        obtain ⟨g5, g6⟩ := S6 b ob g3 trivial
        exact ⟨g5, g6.trans (g4.trans g2)⟩
      obtain ⟨hq6, l6⟩ := keep6 q _ hq3 l3
      refine ⟨q, v, _, _, rfl, rfl, hq6, e6, ?_, ?_⟩
      · rw [zl, List.length_cons, zl]
        rw [List.length_cons] at hacc
        omega
      have S7 : Stay (· ≠ 0) ρ6 H6 ρ6 (upd H6 q (.lst (zV acc ++ (.int ((zV (VaescaNeutral.step r (PyVaesca.whole c)).2).length : Int) :: zV (VaescaNeutral.step r (PyVaesca.whole c)).2)))) := Stay.chg l6
      refine ⟨_, rfl, ⟨i + k, m', (VaescaNeutral.step r (PyVaesca.whole c)).1, cs2, f2, acc ++ (((VaescaNeutral.step r (PyVaesca.whole c)).2.length : Int) :: (VaescaNeutral.step r (PyVaesca.whole c)).2), ρ6, some (.int ((i + k : Nat) : Int)), rfl, hk2, hP2, hcl2, ?_, ?_, ⟨o5, ⟨ρ6, A5, (R5.keep S6 fun _ _ => trivial).keep S7 fun _ h => h, Stay.refl⟩, ho5⟩, l6, ?_, ?_, ?_⟩, ?_⟩
      · rw [htold, List.append_assoc]
        rfl
      · rw [List.length_append, List.length_cons]
        rw [List.length_cons] at hacc
        omega
      · rw [upd_same, zl]
        unfold zV
        rw [List.map_append]
        rfl
      · rcases hS with (h | ⟨ob, h⟩) | h
        · obtain ⟨g1, g2, _⟩ := t3 ⟨_, h⟩
          rcases s3 with (h3 | ⟨ob3, h3⟩) | h3
          · exact .inl (.inl (by rw [upd_ne g2]; exact (keep6 l _ h3 g1).1))
          · exact .inl (.inr ⟨ob3, by rw [upd_ne g2]; exact (keep6 l _ h3 g1).1⟩)
          · exact .inr h3
        · obtain ⟨g1, g2, _⟩ := t3 ⟨_, h⟩
          rcases s3 with (h3 | ⟨ob3, h3⟩) | h3
          · exact .inl (.inl (by rw [upd_ne g2]; exact (keep6 l _ h3 g1).1))
          · exact .inl (.inr ⟨ob3, by rw [upd_ne g2]; exact (keep6 l _ h3 g1).1⟩)
          · exact .inr h3
        · exact .inr h
      · intro t
        obtain ⟨g1, g2, ob, g3⟩ := t3 t
        obtain ⟨g4, g5⟩ := keep6 l ob g3 g1
        exact ⟨g5, g2, ob, by rw [upd_ne g2]; exact g4⟩
      · show zs.length - ((i + k : Nat) : Int).toNat < zs.length - ((i : Nat) : Int).toNat
        omega
    · rw [decide_eq_false (show ¬ (i : Int) < (zs.length : Int) by omega)]
      refine iteF ?_
      have hnil : zs.drop i = [] := List.drop_of_length_le (by omega)
      rw [hnil] at hcl
      have e0 : cs' = [] := by
        cases f <;> exact (Option.some.inj hcl).symm
      subst e0
      rw [htold] at fin
      refine ⟨_, rfl, fin _ q ?_⟩
      rw [hq3]
      show _ = some (HO.lst (zV (acc ++ [])))
      rw [List.append_nil]
  · rintro σ H3 Q1 Q2 hQ h
    obtain ⟨v, e, x, e2, v2, n2, e0, e3, i, j, e4, e5, k, e6, q6⟩ := h
    exact ⟨v, e, x, e2, v2, n2, e0, e3, i, j, e4, e5, k, e6, hQ _ _ q6⟩
end
end Mr
end
section
set_option Elab.async false
set_option linter.all false
set_option maxRecDepth 100000
set_option maxHeartbeats 2000000
namespace Mr
open PySem PySem.Spec PyProof.Rows L2 Hr
theorem plainT_sq {K : PySem.W.Frag} {a : Addr} {xs : List V} (h : PlainT K a xs) : ∀ H, SqT K H a xs := by
  intro H
  obtain ⟨hz, its, n, hv, l⟩ := h
  have e := hv.length
  exact .inr ⟨_, its.toArray, n, l, rfl, rfl, by rw [List.size_toArray, ← e]; exact hz, by simpa using hv⟩
theorem valsZ : ∀ (l : List (Int × Tok)), Vals (l.map fun x => V.int x.1) (l.map fun x => Value.int x.1 x.2)
  | [] => .nil
  | x :: l => .cons ⟨x.2, rfl⟩ (valsZ l)
theorem plainT_ints {K : PySem.W.Frag} {a : Addr} (l : List (Int × Tok)) {n : Nat} (hz : l.length ≤ sizeLine) (h : K.lookup a = some { cls := .type "tuple", data := .seq (l.map fun x => Value.int x.1 x.2).toArray n }) : PlainT K a (l.map fun x => V.int x.1) :=
  ⟨by rw [List.length_map]; exact hz, _, n, valsZ l, h⟩
theorem kd_ints {P : Program} {w : World} {K : PySem.W.Frag} {d : Addr} {es : Array DictEntry} {ep : Nat} {kvs : List (Key × V)} (xs : List (Int × Tok × Value)) (l : K.lookup d = some { cls := .type "dict", data := .dict es ep }) (hs : (d == sysModules) = false)
    (he : es.toList = xs.map fun x => (⟨hashInt x.1, .int x.1 x.2.1, x.2.2⟩ : DictEntry)) (hv : KV kvs (xs.map fun x => ((Sum.inl x.1 : Key), x.2.2))) (nd : (xs.map (·.1)).Nodup) : KD P w K d kvs := by
  refine ⟨hs, fun h hK => ⟨_, hv, _, es, ep, hK _ _ l, ⟨rfl, rfl, rfl⟩, rfl, ?_, ?_, ?_⟩⟩
  · intro e hm
    have hm2 : e ∈ es.toList := by simpa using hm
    rw [he] at hm2
    obtain ⟨x, _, rfl⟩ := List.mem_map.mp hm2
    exact ⟨Sum.inl x.1, keyIs_int x.1 x.2.1, rfl⟩
  · rw [he]
    clear he hv nd l
    induction xs with
    | nil => exact .nil
    | cons x xs ih => exact .cons (keyIs_int x.1 x.2.1) rfl ih
  · rw [List.map_map]
    have e : ((fun x : Key × Value => x.1) ∘ fun x : Int × Tok × Value => ((Sum.inl x.1 : Key), x.2.2)) = fun x : Int × Tok × Value => (Sum.inl x.1 : Key) := rfl
    rw [e]
    clear he hv l
    induction xs with
    | nil => exact List.nodup_nil
    | cons x xs ih =>
      rw [List.map_cons, List.nodup_cons] at nd ⊢
      refine ⟨fun hm => nd.1 ?_, ih nd.2⟩
      obtain ⟨y, hy, ey⟩ := List.mem_map.mp hm
      exact List.mem_map.mpr ⟨y, hy, Sum.inl.inj ey⟩
theorem kdt_of {P : Program} {w : World} {K : PySem.W.Frag} {d : Addr} {es : Array DictEntry} {ep : Nat} {kvs : List (List Key × V)} (xs : List (List Key × Addr × Value)) (l : K.lookup d = some { cls := .type "dict", data := .dict es ep }) (hs : (d == sysModules) = false)
    (he : es.toList = xs.map (entryOfKey (tupleKind (mixKind P w)))) (hk : ∀ x ∈ xs, PlainT K x.2.1 (x.1.map kV)) (hv : Paired (fun (p : List Key × V) (q : List Key × Addr × Value) => p.1 = q.1 ∧ RelV p.2 q.2.2) kvs xs) (nd : (xs.map (·.1)).Nodup) : KDT P w K d kvs := by
  refine ⟨hs, fun h hK => ⟨xs, hv, _, es, ep, hK _ _ l, ⟨rfl, rfl, rfl⟩, rfl, he, fun x hx => ?_, nd⟩⟩
  obtain ⟨_, its, n, r, lk⟩ := hk x hx
  exact ⟨_, its.toArray, n, hK _ _ lk, rfl, rfl, by simpa using items_are r⟩
theorem c_of {K : PySem.W.Frag} {h : Heap} {mg : Str → Option Value} {x : Str} {v : Int} (X : K.In h) (G : h.Ns mainGlobals mg) (r : ∃ t, PySem.W.nsIn K mainGlobals x = some (some (.int v t))) : ∃ t, mg x = some (.int v t) := by
  obtain ⟨t, r⟩ := r
  exact ⟨t, PySem.W.mg_of X G r⟩
theorem plT_of {K : PySem.W.Frag} {a : Addr} (l : List (Int × Tok)) (hz : l.length ≤ sizeLine) (h : ∃ n, K.lookup a = some { cls := .type "tuple", data := .seq (l.map fun x => Value.int x.1 x.2).toArray n }) : PlainT K a (l.map fun x => V.int x.1) := by
  obtain ⟨n, h⟩ := h
  exact plainT_ints l hz h
theorem kdz_of {P : Program} {w : World} {K : PySem.W.Frag} {d : Addr} {kvs : List (Key × V)} (xs : List (Int × Tok × Value)) (h : ∃ es ep, K.lookup d = some { cls := .type "dict", data := .dict es ep } ∧ es.toList = xs.map fun x => (⟨hashInt x.1, .int x.1 x.2.1, x.2.2⟩ : DictEntry)) (hs : (d == sysModules) = false)
    (hv : KV kvs (xs.map fun x => ((Sum.inl x.1 : Key), x.2.2))) (nd : (xs.map (·.1)).Nodup) : KD P w K d kvs := by
  obtain ⟨es, ep, l, he⟩ := h
  exact kd_ints xs l hs he hv nd
theorem kdt1_of {P : Program} {w : World} {K : PySem.W.Frag} {d : Addr} {es : List DictEntry} {kvs : List (List Key × V)} (xs : List (List Key × Addr × Value)) (h : ∃ ep, K.lookup d = some { cls := .type "dict", data := .dict es.toArray ep }) (hs : (d == sysModules) = false)
    (he : es = xs.map (entryOfKey (tupleKind (mixKind P w)))) (hk : ∀ x ∈ xs, PlainT K x.2.1 (x.1.map kV)) (hv : Paired (fun (p : List Key × V) (q : List Key × Addr × Value) => p.1 = q.1 ∧ RelV p.2 q.2.2) kvs xs) (nd : (xs.map (·.1)).Nodup) : KDT P w K d kvs := by
  obtain ⟨ep, l⟩ := h
  exact kdt_of xs l hs (by simpa using he) hk hv nd
theorem f_of {K : PySem.W.Frag} {h : Heap} {mg : Str → Option Value} {x : Str} {st : Stmt} {f : Addr} {ps : List Str} (X : K.In h) (G : h.Ns mainGlobals mg) (r : (PySem.W.nsIn K mainGlobals x = some (some (.ref f))) ∧ RawF K x x st f)
    (hb : ∀ (kV doc pm : Value) (an : Option Addr) (cdv ct : Value) (us : List Value), us.length = ps.length → bindArgs (PySem.W.fnOf x x (defArgs st) (defBody st) (defScope st) .none kV doc pm an cdv ct) ⟨us, []⟩ = pure (ps.zip us)) :
    mg x = some (.ref f) ∧ ∃ fd, Fun K x x st f fd ∧ Binds K fd ps [] := by
  obtain ⟨a, oc, od, an, osl, kV, doc, pm, cdv, ct, l, c, k⟩ := r
  have F := fun_mk (st := st) l c k
  exact ⟨PySem.W.mg_of X G a, _, F, F.binds hb⟩
theorem m_of {K : PySem.W.Frag} {C : Addr} {x q : Str} {st : Stmt} {f : Addr} {ps : List Str} (r : (PySem.W.findIn K (.ref C) x = some (some (.ref f)) ∧ PySem.W.isFn K (.ref f) = true) ∧ RawF K x q st f)
    (hb : ∀ (kV doc pm : Value) (an : Option Addr) (cdv ct : Value) (us : List Value), us.length = ps.length → bindArgs (PySem.W.fnOf x q (defArgs st) (defBody st) (defScope st) .none kV doc pm an cdv ct) ⟨us, []⟩ = pure (ps.zip us)) :
    Meth K C x f ∧ ∃ fd, Fun K x q st f fd ∧ Binds K fd ps [] := by
  obtain ⟨⟨a, i⟩, oc, od, an, osl, kV, doc, pm, cdv, ct, l, c, k⟩ := r
  have F := fun_mk (st := st) l c k
  exact ⟨⟨a, i, k⟩, _, F, F.binds hb⟩
theorem i_of {K : PySem.W.Frag} {x q : Str} {st : Stmt} {f : Addr} {ps : List Str} (r : True ∧ RawF K x q st f)
    (hb : ∀ (kV doc pm : Value) (an : Option Addr) (cdv ct : Value) (us : List Value), us.length = ps.length → bindArgs (PySem.W.fnOf x q (defArgs st) (defBody st) (defScope st) .none kV doc pm an cdv ct) ⟨us, []⟩ = pure (ps.zip us)) :
    True ∧ ∃ fd, Fun K x q st f fd ∧ Binds K fd ps [] := by
  obtain ⟨_, oc, od, an, osl, kV, doc, pm, cdv, ct, l, c, k⟩ := r
  have F := fun_mk (st := st) l c k
  exact ⟨trivial, _, F, F.binds hb⟩
theorem hash_ints (P : Program) (w : World) (l : List Int) (n : Int) (h : reduceHash (Builtin.Tuple.tupleHashOf (l.map hashInt)) = n) : (tupleKind (mixKind P w)).hash (l.map Sum.inl) = n := by
  show reduceHash (Builtin.Tuple.tupleHashOf ((l.map Sum.inl).map (keyH w))) = n
  rw [List.map_map]
  exact h
theorem named_entries (P : Program) (w : World) : ([⟨4773761836662839649, .ref 188, .int 38 516⟩, ⟨-1718784658242572702, .ref 189, .int 60 519⟩, ⟨4767798028956035058, .ref 190, .int 62 522⟩, ⟨6407754560328111152, .ref 191, .int 34 527⟩, ⟨6783043442459324222, .ref 192, .int 39 532⟩] : List DictEntry)
    = [([Sum.inl 97, Sum.inl 109, Sum.inl 112], 188, Value.int 38 516), ([Sum.inl 108, Sum.inl 116], 189, .int 60 519), ([Sum.inl 103, Sum.inl 116], 190, .int 62 522), ([Sum.inl 113, Sum.inl 117, Sum.inl 111, Sum.inl 116], 191, .int 34 527), ([Sum.inl 97, Sum.inl 112, Sum.inl 111, Sum.inl 115], 192, .int 39 532)].map (entryOfKey (tupleKind (mixKind P w))) := by
  have h1 := hash_ints P w [97, 109, 112] 4773761836662839649 (by decide +kernel)
  have h2 := hash_ints P w [108, 116] (-1718784658242572702) (by decide +kernel)
  have h3 := hash_ints P w [103, 116] 4767798028956035058 (by decide +kernel)
  have h4 := hash_ints P w [113, 117, 111, 116] 6407754560328111152 (by decide +kernel)
  have h5 := hash_ints P w [97, 112, 111, 115] 6783043442459324222 (by decide +kernel)
  show _ = ([⟨(tupleKind (mixKind P w)).hash ([97, 109, 112].map Sum.inl), .ref 188, .int 38 516⟩, ⟨(tupleKind (mixKind P w)).hash ([108, 116].map Sum.inl), .ref 189, .int 60 519⟩, ⟨(tupleKind (mixKind P w)).hash ([103, 116].map Sum.inl), .ref 190, .int 62 522⟩,
    ⟨(tupleKind (mixKind P w)).hash ([113, 117, 111, 116].map Sum.inl), .ref 191, .int 34 527⟩, ⟨(tupleKind (mixKind P w)).hash ([97, 112, 111, 115].map Sum.inl), .ref 192, .int 39 532⟩] : List DictEntry)
  rw [h1, h2, h3, h4, h5]
theorem all_of {P : Program} {w : World} {K : PySem.W.Frag} {mg : Str → Option Value} {B : Adr} {fa : Addr} (T : Tx P w K mg B) (hfa : mg "answers" = some (.ref fa)) :
    ∃ fd : FuncData, (∀ (s : Shared) (us : List Value), us.length = (["calls"] : List Str).length → BindsTo s fd ⟨us, []⟩ ((["calls"] : List Str).zip us)) ∧ ∀ base : Heap, FnOk P w K mg base CX0 11 fa fd ["calls"] (spAns K) := by
  obtain ⟨h1, fd, F, b⟩ := T.f_answers
  have e := hfa.symm.trans h1
  cases e
  refine ⟨fd, ?_, fun base => ok_answers T F⟩
  obtain ⟨oc, od, kV, doc, pm, an, cdv, ct, osl, rfl, lk, hcd⟩ := F.ex
  exact fun s us hu => match us, hu with | [_], _ => .of_eq rfl
theorem tx_of {P : Program} {w : World} {K : PySem.W.Frag} {h : Heap} {mg : Str → Option Value} (KX : K.In h) (G : h.Ns mainGlobals mg) (R : Raw K) : Tx P w K mg B0 := {
    n_len := PySem.W.mg_none_of KX G R.n_len,
    n_all := PySem.W.mg_none_of KX G R.n_all,
    n_list := PySem.W.mg_none_of KX G R.n_list,
    n_tuple := PySem.W.mg_none_of KX G R.n_tuple,
    c_TEXT := c_of KX G R.c_TEXT,
    c_REFERENCE_IN_TEXT := c_of KX G R.c_REFERENCE_IN_TEXT,
    c_REFERENCE_IN_QUOTES := c_of KX G R.c_REFERENCE_IN_QUOTES,
    c_REFERENCE_IN_APOSTROPHES := c_of KX G R.c_REFERENCE_IN_APOSTROPHES,
    c_REFERENCE_IN_BARE_VALUE := c_of KX G R.c_REFERENCE_IN_BARE_VALUE,
    c_BEHIND_LESS := c_of KX G R.c_BEHIND_LESS,
    c_OPEN_TAG_NAME := c_of KX G R.c_OPEN_TAG_NAME,
    c_BEHIND_LESS_SLASH := c_of KX G R.c_BEHIND_LESS_SLASH,
    c_CLOSE_TAG_NAME := c_of KX G R.c_CLOSE_TAG_NAME,
    c_GAP := c_of KX G R.c_GAP,
    c_ATTRIBUTE_NAME := c_of KX G R.c_ATTRIBUTE_NAME,
    c_BEHIND_EQUALS := c_of KX G R.c_BEHIND_EQUALS,
    c_VALUE_IN_QUOTES := c_of KX G R.c_VALUE_IN_QUOTES,
    c_VALUE_IN_APOSTROPHES := c_of KX G R.c_VALUE_IN_APOSTROPHES,
    c_BARE_VALUE := c_of KX G R.c_BARE_VALUE,
    c_BEHIND_VALUE := c_of KX G R.c_BEHIND_VALUE,
    c_BEHIND_SLASH := c_of KX G R.c_BEHIND_SLASH,
    c_BEHIND_LESS_EXCLAMATION := c_of KX G R.c_BEHIND_LESS_EXCLAMATION,
    c_BEHIND_FIRST_DASH := c_of KX G R.c_BEHIND_FIRST_DASH,
    c_COMMENT := c_of KX G R.c_COMMENT,
    c_COMMENT_ONE_DASH := c_of KX G R.c_COMMENT_ONE_DASH,
    c_COMMENT_TWO_DASHES := c_of KX G R.c_COMMENT_TWO_DASHES,
    c_RAW_TEXT := c_of KX G R.c_RAW_TEXT,
    c_RAW_BEHIND_LESS := c_of KX G R.c_RAW_BEHIND_LESS,
    c_RAW_CLOSE_TAG := c_of KX G R.c_RAW_CLOSE_TAG,
    c_ENDED := c_of KX G R.c_ENDED,
    c_FAULTY := c_of KX G R.c_FAULTY,
    c_SPACE := c_of KX G R.c_SPACE,
    c_EXCLAMATION := c_of KX G R.c_EXCLAMATION,
    c_QUOTE := c_of KX G R.c_QUOTE,
    c_NUMBER_SIGN := c_of KX G R.c_NUMBER_SIGN,
    c_AMPERSAND := c_of KX G R.c_AMPERSAND,
    c_APOSTROPHE := c_of KX G R.c_APOSTROPHE,
    c_DASH := c_of KX G R.c_DASH,
    c_SLASH := c_of KX G R.c_SLASH,
    c_SEMICOLON := c_of KX G R.c_SEMICOLON,
    c_LESS := c_of KX G R.c_LESS,
    c_EQUALS := c_of KX G R.c_EQUALS,
    c_GREATER := c_of KX G R.c_GREATER,
    c_RUN_OF_TEXT_TOKEN := c_of KX G R.c_RUN_OF_TEXT_TOKEN,
    c_OPEN_TAG_TOKEN := c_of KX G R.c_OPEN_TAG_TOKEN,
    c_CLOSE_TAG_TOKEN := c_of KX G R.c_CLOSE_TAG_TOKEN,
    c_COMMENT_TOKEN := c_of KX G R.c_COMMENT_TOKEN,
    c_RAW_TEXT_TOKEN := c_of KX G R.c_RAW_TEXT_TOKEN,
    c_NO_DIGIT := c_of KX G R.c_NO_DIGIT,
    c_WRONG_BYTE := c_of KX G R.c_WRONG_BYTE,
    c_LONG_NAME := c_of KX G R.c_LONG_NAME,
    c_SAME_ATTRIBUTE := c_of KX G R.c_SAME_ATTRIBUTE,
    c_NO_REFERENCE := c_of KX G R.c_NO_REFERENCE,
    c_WRONG_MARK := c_of KX G R.c_WRONG_MARK,
    c_WRONG_RAW_END := c_of KX G R.c_WRONG_RAW_END,
    c_EARLY_END := c_of KX G R.c_EARLY_END,
    c_LONGEST_NAME := c_of KX G R.c_LONGEST_NAME,
    c_LONGEST_BODY := c_of KX G R.c_LONGEST_BODY,
    c_MOST_SIGNS := c_of KX G R.c_MOST_SIGNS,
    c_NOT_REFUSED := c_of KX G R.c_NOT_REFUSED,
    c_NO_SIGN := c_of KX G R.c_NO_SIGN,
    c_NOTHING_READ_ANY_MORE := c_of KX G R.c_NOTHING_READ_ANY_MORE,
    c_TOO_MANY_SIGNS := c_of KX G R.c_TOO_MANY_SIGNS,
    c_NO_SUCH_TOKEN := c_of KX G R.c_NO_SUCH_TOKEN,
    a_BLANKS := PySem.W.mg_of KX G R.a_BLANKS,
    t_BLANKS := plainT_sq (plT_of [(9, 267), (10, 268), (13, 269), (32, 270)] (by decide) R.t_BLANKS),
    a_NOT_BARE := PySem.W.mg_of KX G R.a_NOT_BARE,
    t_NOT_BARE := plainT_sq (plT_of [(34, 272), (38, 273), (39, 274), (60, 275), (61, 276), (62, 277), (96, 278)] (by decide) R.t_NOT_BARE),
    a_CALC := PySem.W.mg_of KX G R.a_CALC,
    t_CALC := plainT_sq (plT_of [(99, 355), (97, 356), (108, 357), (99, 358)] (by decide) R.t_CALC),
    a_VERB := PySem.W.mg_of KX G R.a_VERB,
    t_VERB := plainT_sq (plT_of [(118, 360), (101, 361), (114, 362), (98, 363)] (by decide) R.t_VERB),
    a_NAMED_BYTES := PySem.W.mg_of KX G R.a_NAMED_BYTES,
    d_NAMED_BYTES := kdt1_of [([Sum.inl 97, Sum.inl 109, Sum.inl 112], 188, .int 38 516), ([Sum.inl 108, Sum.inl 116], 189, .int 60 519), ([Sum.inl 103, Sum.inl 116], 190, .int 62 522), ([Sum.inl 113, Sum.inl 117, Sum.inl 111, Sum.inl 116], 191, .int 34 527), ([Sum.inl 97, Sum.inl 112, Sum.inl 111, Sum.inl 115], 192, .int 39 532)] R.d_NAMED_BYTES (by decide) (named_entries _ _) (List.forall_mem_cons.mpr ⟨plT_of [(97, 513), (109, 514), (112, 515)] (by decide) R.k_188, (List.forall_mem_cons.mpr ⟨plT_of [(108, 517), (116, 518)] (by decide) R.k_189, (List.forall_mem_cons.mpr ⟨plT_of [(103, 520), (116, 521)] (by decide) R.k_190, (List.forall_mem_cons.mpr ⟨plT_of [(113, 523), (117, 524), (111, 525), (116, 526)] (by decide) R.k_191, (List.forall_mem_cons.mpr ⟨plT_of [(97, 528), (112, 529), (111, 530), (115, 531)] (by decide) R.k_192, (fun _ h => nomatch h)⟩)⟩)⟩)⟩)⟩) (.cons ⟨rfl, ⟨_, rfl⟩⟩ (.cons ⟨rfl, ⟨_, rfl⟩⟩ (.cons ⟨rfl, ⟨_, rfl⟩⟩ (.cons ⟨rfl, ⟨_, rfl⟩⟩ (.cons ⟨rfl, ⟨_, rfl⟩⟩ .nil))))) (by decide),
    a_MODES_BEHIND_REFERENCE := PySem.W.mg_of KX G R.a_MODES_BEHIND_REFERENCE,
    d_MODES_BEHIND_REFERENCE := kdz_of [(1, 602, .int 0 603), (2, 604, .int 12 605), (3, 606, .int 13 607), (4, 608, .int 14 609)] R.d_MODES_BEHIND_REFERENCE (by decide) (.cons ⟨rfl, ⟨_, rfl⟩⟩ (.cons ⟨rfl, ⟨_, rfl⟩⟩ (.cons ⟨rfl, ⟨_, rfl⟩⟩ (.cons ⟨rfl, ⟨_, rfl⟩⟩ .nil)))) (by decide),
    a_SPOTS := PySem.W.mg_of KX G R.a_SPOTS,
    d_SPOTS := kdz_of [(0, 615, .int 0 616), (11, 617, .int 4 618), (12, 619, .int 1 620), (13, 621, .int 2 622), (14, 623, .int 3 624), (22, 625, .int 5 626)] R.d_SPOTS (by decide) (.cons ⟨rfl, ⟨_, rfl⟩⟩ (.cons ⟨rfl, ⟨_, rfl⟩⟩ (.cons ⟨rfl, ⟨_, rfl⟩⟩ (.cons ⟨rfl, ⟨_, rfl⟩⟩ (.cons ⟨rfl, ⟨_, rfl⟩⟩ (.cons ⟨rfl, ⟨_, rfl⟩⟩ .nil)))))) (by decide),
    a_STEPS := PySem.W.mg_of KX G R.a_STEPS,
    d_STEPS := kdz_of [(0, 852, .ref 222), (1, 854, .ref 236), (2, 856, .ref 236), (3, 858, .ref 236), (4, 860, .ref 236), (5, 862, .ref 250), (6, 864, .ref 264), (7, 866, .ref 278), (8, 868, .ref 285), (9, 870, .ref 299), (10, 872, .ref 306), (11, 874, .ref 313), (12, 876, .ref 320), (13, 878, .ref 327), (14, 880, .ref 341), (15, 882, .ref 271), (16, 884, .ref 348), (17, 886, .ref 355), (18, 887, .ref 355), (19, 888, .ref 362), (20, 889, .ref 369), (21, 890, .ref 376), (22, 891, .ref 383), (23, 892, .ref 390), (24, 893, .ref 397)] R.d_STEPS (by decide) (.cons ⟨rfl, rfl⟩ (.cons ⟨rfl, rfl⟩ (.cons ⟨rfl, rfl⟩ (.cons ⟨rfl, rfl⟩ (.cons ⟨rfl, rfl⟩ (.cons ⟨rfl, rfl⟩ (.cons ⟨rfl, rfl⟩ (.cons ⟨rfl, rfl⟩ (.cons ⟨rfl, rfl⟩ (.cons ⟨rfl, rfl⟩ (.cons ⟨rfl, rfl⟩ (.cons ⟨rfl, rfl⟩ (.cons ⟨rfl, rfl⟩ (.cons ⟨rfl, rfl⟩ (.cons ⟨rfl, rfl⟩ (.cons ⟨rfl, rfl⟩ (.cons ⟨rfl, rfl⟩ (.cons ⟨rfl, rfl⟩ (.cons ⟨rfl, rfl⟩ (.cons ⟨rfl, rfl⟩ (.cons ⟨rfl, rfl⟩ (.cons ⟨rfl, rfl⟩ (.cons ⟨rfl, rfl⟩ (.cons ⟨rfl, rfl⟩ (.cons ⟨rfl, rfl⟩ .nil))))))))))))))))))))))))) (by decide),
    a_REFERENCES := PySem.W.mg_of KX G R.a_REFERENCES,
    d_REFERENCES := kdz_of [(34, 937, .ref 436), (38, 944, .ref 437), (60, 950, .ref 438)] R.d_REFERENCES (by decide) (.cons ⟨rfl, rfl⟩ (.cons ⟨rfl, rfl⟩ (.cons ⟨rfl, rfl⟩ .nil))) (by decide),
    t_r_34 := plT_of [(38, 938), (113, 939), (117, 940), (111, 941), (116, 942), (59, 943)] (by decide) R.t_r_34,
    t_r_38 := plT_of [(38, 945), (97, 946), (109, 947), (112, 948), (59, 949)] (by decide) R.t_r_38,
    t_r_60 := plT_of [(38, 951), (108, 952), (116, 953), (59, 954)] (by decide) R.t_r_60,
    a_WRITERS := PySem.W.mg_of KX G R.a_WRITERS,
    d_WRITERS := kdz_of [(0, 1015, .ref 452), (1, 1016, .ref 466), (2, 1017, .ref 473), (3, 1018, .ref 480), (4, 1019, .ref 487)] R.d_WRITERS (by decide) (.cons ⟨rfl, rfl⟩ (.cons ⟨rfl, rfl⟩ (.cons ⟨rfl, rfl⟩ (.cons ⟨rfl, rfl⟩ (.cons ⟨rfl, rfl⟩ .nil))))) (by decide),
    a_CALLS_ALONE := PySem.W.mg_of KX G R.a_CALLS_ALONE,
    d_CALLS_ALONE := kdz_of [(0, 1172, .ref 528), (2, 1173, .ref 542), (3, 1174, .ref 549), (4, 1175, .ref 556), (6, 1176, .ref 577), (7, 1177, .ref 584), (8, 1178, .ref 591)] R.d_CALLS_ALONE (by decide) (.cons ⟨rfl, rfl⟩ (.cons ⟨rfl, rfl⟩ (.cons ⟨rfl, rfl⟩ (.cons ⟨rfl, rfl⟩ (.cons ⟨rfl, rfl⟩ (.cons ⟨rfl, rfl⟩ (.cons ⟨rfl, rfl⟩ .nil))))))) (by decide),
    a_CALLS_WITH_NUMBER := PySem.W.mg_of KX G R.a_CALLS_WITH_NUMBER,
    d_CALLS_WITH_NUMBER := kdz_of [(5, 1187, .ref 570)] R.d_CALLS_WITH_NUMBER (by decide) (.cons ⟨rfl, rfl⟩ .nil) (by decide),
    a_CALLS_WITH_SIGNS := PySem.W.mg_of KX G R.a_CALLS_WITH_SIGNS,
    d_CALLS_WITH_SIGNS := kdz_of [(1, 1190, .ref 535), (9, 1191, .ref 598)] R.d_CALLS_WITH_SIGNS (by decide) (.cons ⟨rfl, rfl⟩ (.cons ⟨rfl, rfl⟩ .nil)) (by decide),
    g_Token := PySem.W.mg_of KX G R.g_Token,
    cl_Token := ⟨R.cl_Token.1, R.cl_Token.2.1, R.cl_Token.2.2.1, R.cl_Token.2.2.2⟩,
    mk_Token := ⟨R.mk_Token.1, R.mk_Token.2.1, R.mk_Token.2.2.1, R.mk_Token.2.2.2⟩,
    g_Reader := PySem.W.mg_of KX G R.g_Reader,
    cl_Reader := ⟨R.cl_Reader.1, R.cl_Reader.2.1, R.cl_Reader.2.2.1, R.cl_Reader.2.2.2⟩,
    mk_Reader := ⟨R.mk_Reader.1, R.mk_Reader.2.1, R.mk_Reader.2.2.1, R.mk_Reader.2.2.2⟩,
    at_kind := R.at_kind,
    at_place := R.at_place,
    at_signs := R.at_signs,
    at_attributes := R.at_attributes,
    at_ended := R.at_ended,
    ar_mode := R.ar_mode,
    ar_read_count := R.ar_read_count,
    ar_fault_kind := R.ar_fault_kind,
    ar_fault_place := R.ar_fault_place,
    ar_tokens := R.ar_tokens,
    ar_token_place := R.ar_token_place,
    ar_tag_name := R.ar_tag_name,
    ar_attributes := R.ar_attributes,
    ar_attribute_name := R.ar_attribute_name,
    ar_body := R.ar_body,
    ar_run := R.ar_run,
    ar_marks := R.ar_marks,
    f_is_sign := f_of KX G R.f_is_sign (fun _ _ _ _ _ _ us hl => match us, hl with | [_], _ => rfl),
    f_is_mark := f_of KX G R.f_is_mark (fun _ _ _ _ _ _ us hl => match us, hl with | [_], _ => rfl),
    f_is_blank := f_of KX G R.f_is_blank (fun _ _ _ _ _ _ us hl => match us, hl with | [_], _ => rfl),
    f_is_small_letter := f_of KX G R.f_is_small_letter (fun _ _ _ _ _ _ us hl => match us, hl with | [_], _ => rfl),
    f_is_large_letter := f_of KX G R.f_is_large_letter (fun _ _ _ _ _ _ us hl => match us, hl with | [_], _ => rfl),
    f_is_digit := f_of KX G R.f_is_digit (fun _ _ _ _ _ _ us hl => match us, hl with | [_], _ => rfl),
    f_is_name_sign := f_of KX G R.f_is_name_sign (fun _ _ _ _ _ _ us hl => match us, hl with | [_], _ => rfl),
    f_is_body_sign := f_of KX G R.f_is_body_sign (fun _ _ _ _ _ _ us hl => match us, hl with | [_], _ => rfl),
    f_is_bare_sign := f_of KX G R.f_is_bare_sign (fun _ _ _ _ _ _ us hl => match us, hl with | [_], _ => rfl),
    f_Token_init := i_of R.f_Token_init (fun _ _ _ _ _ _ us hl => match us, hl with | [_, _, _, _, _, _], _ => rfl),
    f_Reader_init := i_of R.f_Reader_init (fun _ _ _ _ _ _ us hl => match us, hl with | [_], _ => rfl),
    f_Reader_renew := m_of R.f_Reader_renew (fun _ _ _ _ _ _ us hl => match us, hl with | [_], _ => rfl),
    f_Reader_fail := m_of R.f_Reader_fail (fun _ _ _ _ _ _ us hl => match us, hl with | [_, _], _ => rfl),
    f_Reader_add_token := m_of R.f_Reader_add_token (fun _ _ _ _ _ _ us hl => match us, hl with | [_, _, _, _], _ => rfl),
    f_Reader_end_run := m_of R.f_Reader_end_run (fun _ _ _ _ _ _ us hl => match us, hl with | [_, _, _], _ => rfl),
    f_Reader_end_attribute := m_of R.f_Reader_end_attribute (fun _ _ _ _ _ _ us hl => match us, hl with | [_], _ => rfl),
    f_Reader_add_open_tag := m_of R.f_Reader_add_open_tag (fun _ _ _ _ _ _ us hl => match us, hl with | [_, _], _ => rfl),
    f_Reader_end_tag := m_of R.f_Reader_end_tag (fun _ _ _ _ _ _ us hl => match us, hl with | [_], _ => rfl),
    f_Reader_end_open_tag := m_of R.f_Reader_end_open_tag (fun _ _ _ _ _ _ us hl => match us, hl with | [_], _ => rfl),
    f_Reader_end_ended_tag := m_of R.f_Reader_end_ended_tag (fun _ _ _ _ _ _ us hl => match us, hl with | [_], _ => rfl),
    f_digit_value := f_of KX G R.f_digit_value (fun _ _ _ _ _ _ us hl => match us, hl with | [_], _ => rfl),
    f_number_byte := f_of KX G R.f_number_byte (fun _ _ _ _ _ _ us hl => match us, hl with | [_, _, _], _ => rfl),
    f_reference_byte := f_of KX G R.f_reference_byte (fun _ _ _ _ _ _ us hl => match us, hl with | [_], _ => rfl),
    f_read_in_text := f_of KX G R.f_read_in_text (fun _ _ _ _ _ _ us hl => match us, hl with | [_, _], _ => rfl),
    f_end_run_of_text := f_of KX G R.f_end_run_of_text (fun _ _ _ _ _ _ us hl => match us, hl with | [_], _ => rfl),
    f_read_in_reference := f_of KX G R.f_read_in_reference (fun _ _ _ _ _ _ us hl => match us, hl with | [_, _], _ => rfl),
    f_end_reference := f_of KX G R.f_end_reference (fun _ _ _ _ _ _ us hl => match us, hl with | [_], _ => rfl),
    f_read_behind_less := f_of KX G R.f_read_behind_less (fun _ _ _ _ _ _ us hl => match us, hl with | [_, _], _ => rfl),
    f_add_to_name := f_of KX G R.f_add_to_name (fun _ _ _ _ _ _ us hl => match us, hl with | [_, _, _], _ => rfl),
    f_read_in_open_tag_name := f_of KX G R.f_read_in_open_tag_name (fun _ _ _ _ _ _ us hl => match us, hl with | [_, _], _ => rfl),
    f_read_behind_part_of_tag := f_of KX G R.f_read_behind_part_of_tag (fun _ _ _ _ _ _ us hl => match us, hl with | [_, _], _ => rfl),
    f_read_behind_less_slash := f_of KX G R.f_read_behind_less_slash (fun _ _ _ _ _ _ us hl => match us, hl with | [_, _], _ => rfl),
    f_read_in_close_tag_name := f_of KX G R.f_read_in_close_tag_name (fun _ _ _ _ _ _ us hl => match us, hl with | [_, _], _ => rfl),
    f_end_close_tag := f_of KX G R.f_end_close_tag (fun _ _ _ _ _ _ us hl => match us, hl with | [_], _ => rfl),
    f_read_in_gap := f_of KX G R.f_read_in_gap (fun _ _ _ _ _ _ us hl => match us, hl with | [_, _], _ => rfl),
    f_read_in_attribute_name := f_of KX G R.f_read_in_attribute_name (fun _ _ _ _ _ _ us hl => match us, hl with | [_, _], _ => rfl),
    f_read_behind_equals := f_of KX G R.f_read_behind_equals (fun _ _ _ _ _ _ us hl => match us, hl with | [_, _], _ => rfl),
    f_read_in_quotes := f_of KX G R.f_read_in_quotes (fun _ _ _ _ _ _ us hl => match us, hl with | [_, _], _ => rfl),
    f_read_in_apostrophes := f_of KX G R.f_read_in_apostrophes (fun _ _ _ _ _ _ us hl => match us, hl with | [_, _], _ => rfl),
    f_read_between := f_of KX G R.f_read_between (fun _ _ _ _ _ _ us hl => match us, hl with | [_, _, _, _], _ => rfl),
    f_read_in_bare_value := f_of KX G R.f_read_in_bare_value (fun _ _ _ _ _ _ us hl => match us, hl with | [_, _], _ => rfl),
    f_read_behind_slash := f_of KX G R.f_read_behind_slash (fun _ _ _ _ _ _ us hl => match us, hl with | [_, _], _ => rfl),
    f_read_dash_ahead_of_comment := f_of KX G R.f_read_dash_ahead_of_comment (fun _ _ _ _ _ _ us hl => match us, hl with | [_, _], _ => rfl),
    f_read_in_comment := f_of KX G R.f_read_in_comment (fun _ _ _ _ _ _ us hl => match us, hl with | [_, _], _ => rfl),
    f_read_behind_one_dash := f_of KX G R.f_read_behind_one_dash (fun _ _ _ _ _ _ us hl => match us, hl with | [_, _], _ => rfl),
    f_read_behind_two_dashes := f_of KX G R.f_read_behind_two_dashes (fun _ _ _ _ _ _ us hl => match us, hl with | [_, _], _ => rfl),
    f_read_in_raw_text := f_of KX G R.f_read_in_raw_text (fun _ _ _ _ _ _ us hl => match us, hl with | [_, _], _ => rfl),
    f_read_in_raw_text_behind_less := f_of KX G R.f_read_in_raw_text_behind_less (fun _ _ _ _ _ _ us hl => match us, hl with | [_, _], _ => rfl),
    f_read_in_raw_close_tag := f_of KX G R.f_read_in_raw_close_tag (fun _ _ _ _ _ _ us hl => match us, hl with | [_, _], _ => rfl),
    f_end_raw_element := f_of KX G R.f_end_raw_element (fun _ _ _ _ _ _ us hl => match us, hl with | [_], _ => rfl),
    f_takes_marks := f_of KX G R.f_takes_marks (fun _ _ _ _ _ _ us hl => match us, hl with | [_], _ => rfl),
    f_read_sign := f_of KX G R.f_read_sign (fun _ _ _ _ _ _ us hl => match us, hl with | [_, _], _ => rfl),
    f_read_signs := f_of KX G R.f_read_signs (fun _ _ _ _ _ _ us hl => match us, hl with | [_, _], _ => rfl),
    f_read_end := f_of KX G R.f_read_end (fun _ _ _ _ _ _ us hl => match us, hl with | [_], _ => rfl),
    f_with_references := f_of KX G R.f_with_references (fun _ _ _ _ _ _ us hl => match us, hl with | [_, _], _ => rfl),
    f_write_run_of_text := f_of KX G R.f_write_run_of_text (fun _ _ _ _ _ _ us hl => match us, hl with | [_], _ => rfl),
    f_write_attribute := f_of KX G R.f_write_attribute (fun _ _ _ _ _ _ us hl => match us, hl with | [_, _], _ => rfl),
    f_write_open_tag := f_of KX G R.f_write_open_tag (fun _ _ _ _ _ _ us hl => match us, hl with | [_], _ => rfl),
    f_write_close_tag := f_of KX G R.f_write_close_tag (fun _ _ _ _ _ _ us hl => match us, hl with | [_], _ => rfl),
    f_write_comment := f_of KX G R.f_write_comment (fun _ _ _ _ _ _ us hl => match us, hl with | [_], _ => rfl),
    f_write_raw_text := f_of KX G R.f_write_raw_text (fun _ _ _ _ _ _ us hl => match us, hl with | [_], _ => rfl),
    f_write_tokens := f_of KX G R.f_write_tokens (fun _ _ _ _ _ _ us hl => match us, hl with | [_], _ => rfl),
    f_reads_no_more := f_of KX G R.f_reads_no_more (fun _ _ _ _ _ _ us hl => match us, hl with | [_], _ => rfl),
    f_fault_now := f_of KX G R.f_fault_now (fun _ _ _ _ _ _ us hl => match us, hl with | [_], _ => rfl),
    f_refusal_of := f_of KX G R.f_refusal_of (fun _ _ _ _ _ _ us hl => match us, hl with | [_, _], _ => rfl),
    f_with_length := f_of KX G R.f_with_length (fun _ _ _ _ _ _ us hl => match us, hl with | [_], _ => rfl),
    f_begin := f_of KX G R.f_begin (fun _ _ _ _ _ _ us hl => match us, hl with | [_], _ => rfl),
    f_feed := f_of KX G R.f_feed (fun _ _ _ _ _ _ us hl => match us, hl with | [_, _], _ => rfl),
    f_end := f_of KX G R.f_end (fun _ _ _ _ _ _ us hl => match us, hl with | [_], _ => rfl),
    f_fault := f_of KX G R.f_fault (fun _ _ _ _ _ _ us hl => match us, hl with | [_], _ => rfl),
    f_tokens := f_of KX G R.f_tokens (fun _ _ _ _ _ _ us hl => match us, hl with | [_], _ => rfl),
    f_parts_of_open_tag := f_of KX G R.f_parts_of_open_tag (fun _ _ _ _ _ _ us hl => match us, hl with | [_], _ => rfl),
    f_token := f_of KX G R.f_token (fun _ _ _ _ _ _ us hl => match us, hl with | [_, _], _ => rfl),
    f_state := f_of KX G R.f_state (fun _ _ _ _ _ _ us hl => match us, hl with | [_], _ => rfl),
    f_marks := f_of KX G R.f_marks (fun _ _ _ _ _ _ us hl => match us, hl with | [_], _ => rfl),
    f_written := f_of KX G R.f_written (fun _ _ _ _ _ _ us hl => match us, hl with | [_], _ => rfl),
    f_whole := f_of KX G R.f_whole (fun _ _ _ _ _ _ us hl => match us, hl with | [_, _], _ => rfl),
    f_length_of_call := f_of KX G R.f_length_of_call (fun _ _ _ _ _ _ us hl => match us, hl with | [_, _], _ => rfl),
    f_answer_of := f_of KX G R.f_answer_of (fun _ _ _ _ _ _ us hl => match us, hl with | [_, _], _ => rfl),
    f_answers := f_of KX G R.f_answers (fun _ _ _ _ _ _ us hl => match us, hl with | [_], _ => rfl) }
end Mr
end
set_option Elab.async false
set_option linter.all false
set_option maxRecDepth 100000
open PySem PySem.W PyProof.Rows
open PySem PySem.W PyProof.Rows
set_option maxRecDepth 100000 in
set_option maxHeartbeats 0 in
theorem PySem.Challenge.cw_markreader_s01_answers_holds : PySem.Challenge.rw_markreader_s01_answers.Holds := by
  refine Mr.topHead ?_
  k_fillS
  refine L2.walk_specK (r := PySem.Challenge.rw_markreader_s01_answers) (k := 11) (CX := L2.CX0) (ps := ["calls"]) (sp := Mr.spAns) (by decide +kernel) rfl rfl ⟨rfl, by decide, by decide⟩ (fun w h Y => PySem.W.kIn_of Y) ?F ?S (fun _ _ _ _ z => z)
  case F =>
    intro w mg fa h Y KX G hmg
    have R : Mr.Raw (Mr.topHead.heap_1 w.params) := {
      n_len := by k_is,
      n_all := by k_is,
      n_list := by k_is,
      n_tuple := by k_is,
      c_TEXT := ⟨_, by k_is⟩,
      c_REFERENCE_IN_TEXT := ⟨_, by k_is⟩,
      c_REFERENCE_IN_QUOTES := ⟨_, by k_is⟩,
      c_REFERENCE_IN_APOSTROPHES := ⟨_, by k_is⟩,
      c_REFERENCE_IN_BARE_VALUE := ⟨_, by k_is⟩,
      c_BEHIND_LESS := ⟨_, by k_is⟩,
      c_OPEN_TAG_NAME := ⟨_, by k_is⟩,
      c_BEHIND_LESS_SLASH := ⟨_, by k_is⟩,
      c_CLOSE_TAG_NAME := ⟨_, by k_is⟩,
      c_GAP := ⟨_, by k_is⟩,
      c_ATTRIBUTE_NAME := ⟨_, by k_is⟩,
      c_BEHIND_EQUALS := ⟨_, by k_is⟩,
      c_VALUE_IN_QUOTES := ⟨_, by k_is⟩,
      c_VALUE_IN_APOSTROPHES := ⟨_, by k_is⟩,
      c_BARE_VALUE := ⟨_, by k_is⟩,
      c_BEHIND_VALUE := ⟨_, by k_is⟩,
      c_BEHIND_SLASH := ⟨_, by k_is⟩,
      c_BEHIND_LESS_EXCLAMATION := ⟨_, by k_is⟩,
      c_BEHIND_FIRST_DASH := ⟨_, by k_is⟩,
      c_COMMENT := ⟨_, by k_is⟩,
      c_COMMENT_ONE_DASH := ⟨_, by k_is⟩,
      c_COMMENT_TWO_DASHES := ⟨_, by k_is⟩,
      c_RAW_TEXT := ⟨_, by k_is⟩,
      c_RAW_BEHIND_LESS := ⟨_, by k_is⟩,
      c_RAW_CLOSE_TAG := ⟨_, by k_is⟩,
      c_ENDED := ⟨_, by k_is⟩,
      c_FAULTY := ⟨_, by k_is⟩,
      c_SPACE := ⟨_, by k_is⟩,
      c_EXCLAMATION := ⟨_, by k_is⟩,
      c_QUOTE := ⟨_, by k_is⟩,
      c_NUMBER_SIGN := ⟨_, by k_is⟩,
      c_AMPERSAND := ⟨_, by k_is⟩,
      c_APOSTROPHE := ⟨_, by k_is⟩,
      c_DASH := ⟨_, by k_is⟩,
      c_SLASH := ⟨_, by k_is⟩,
      c_SEMICOLON := ⟨_, by k_is⟩,
      c_LESS := ⟨_, by k_is⟩,
      c_EQUALS := ⟨_, by k_is⟩,
      c_GREATER := ⟨_, by k_is⟩,
      c_RUN_OF_TEXT_TOKEN := ⟨_, by k_is⟩,
      c_OPEN_TAG_TOKEN := ⟨_, by k_is⟩,
      c_CLOSE_TAG_TOKEN := ⟨_, by k_is⟩,
      c_COMMENT_TOKEN := ⟨_, by k_is⟩,
      c_RAW_TEXT_TOKEN := ⟨_, by k_is⟩,
      c_NO_DIGIT := ⟨_, by k_is⟩,
      c_WRONG_BYTE := ⟨_, by k_is⟩,
      c_LONG_NAME := ⟨_, by k_is⟩,
      c_SAME_ATTRIBUTE := ⟨_, by k_is⟩,
      c_NO_REFERENCE := ⟨_, by k_is⟩,
      c_WRONG_MARK := ⟨_, by k_is⟩,
      c_WRONG_RAW_END := ⟨_, by k_is⟩,
      c_EARLY_END := ⟨_, by k_is⟩,
      c_LONGEST_NAME := ⟨_, by k_is⟩,
      c_LONGEST_BODY := ⟨_, by k_is⟩,
      c_MOST_SIGNS := ⟨_, by k_is⟩,
      c_NOT_REFUSED := ⟨_, by k_is⟩,
      c_NO_SIGN := ⟨_, by k_is⟩,
      c_NOTHING_READ_ANY_MORE := ⟨_, by k_is⟩,
      c_TOO_MANY_SIGNS := ⟨_, by k_is⟩,
      c_NO_SUCH_TOKEN := ⟨_, by k_is⟩,
      a_BLANKS := by k_is,
      t_BLANKS := ⟨_, by k_is⟩,
      a_NOT_BARE := by k_is,
      t_NOT_BARE := ⟨_, by k_is⟩,
      a_CALC := by k_is,
      t_CALC := ⟨_, by k_is⟩,
      a_VERB := by k_is,
      t_VERB := ⟨_, by k_is⟩,
      a_NAMED_BYTES := by k_is,
      d_NAMED_BYTES := ⟨_, by k_is⟩,
      k_188 := ⟨_, by k_is⟩,
      k_189 := ⟨_, by k_is⟩,
      k_190 := ⟨_, by k_is⟩,
      k_191 := ⟨_, by k_is⟩,
      k_192 := ⟨_, by k_is⟩,
      a_MODES_BEHIND_REFERENCE := by k_is,
      d_MODES_BEHIND_REFERENCE := ⟨_, _, by k_is, by rfl⟩,
      a_SPOTS := by k_is,
      d_SPOTS := ⟨_, _, by k_is, by rfl⟩,
      a_STEPS := by k_is,
      d_STEPS := ⟨_, _, by k_is, by rfl⟩,
      a_REFERENCES := by k_is,
      d_REFERENCES := ⟨_, _, by k_is, by rfl⟩,
      t_r_34 := ⟨_, by k_is⟩,
      t_r_38 := ⟨_, by k_is⟩,
      t_r_60 := ⟨_, by k_is⟩,
      a_WRITERS := by k_is,
      d_WRITERS := ⟨_, _, by k_is, by rfl⟩,
      a_CALLS_ALONE := by k_is,
      d_CALLS_ALONE := ⟨_, _, by k_is, by rfl⟩,
      a_CALLS_WITH_NUMBER := by k_is,
      d_CALLS_WITH_NUMBER := ⟨_, _, by k_is, by rfl⟩,
      a_CALLS_WITH_SIGNS := by k_is,
      d_CALLS_WITH_SIGNS := ⟨_, _, by k_is, by rfl⟩,
      g_Token := by k_is,
      cl_Token := ⟨by k_is, by k_is, by k_is, by k_is⟩,
      mk_Token := ⟨by k_is, by k_is, by k_is, by k_is⟩,
      g_Reader := by k_is,
      cl_Reader := ⟨by k_is, by k_is, by k_is, by k_is⟩,
      mk_Reader := ⟨by k_is, by k_is, by k_is, by k_is⟩,
      at_kind := by k_is,
      at_place := by k_is,
      at_signs := by k_is,
      at_attributes := by k_is,
      at_ended := by k_is,
      ar_mode := by k_is,
      ar_read_count := by k_is,
      ar_fault_kind := by k_is,
      ar_fault_place := by k_is,
      ar_tokens := by k_is,
      ar_token_place := by k_is,
      ar_tag_name := by k_is,
      ar_attributes := by k_is,
      ar_attribute_name := by k_is,
      ar_body := by k_is,
      ar_run := by k_is,
      ar_marks := by k_is,
      f_is_sign := ⟨by k_is, _, _, _, _, _, _, _, _, _, by k_is, by k_is, by k_is⟩,
      f_is_mark := ⟨by k_is, _, _, _, _, _, _, _, _, _, by k_is, by k_is, by k_is⟩,
      f_is_blank := ⟨by k_is, _, _, _, _, _, _, _, _, _, by k_is, by k_is, by k_is⟩,
      f_is_small_letter := ⟨by k_is, _, _, _, _, _, _, _, _, _, by k_is, by k_is, by k_is⟩,
      f_is_large_letter := ⟨by k_is, _, _, _, _, _, _, _, _, _, by k_is, by k_is, by k_is⟩,
      f_is_digit := ⟨by k_is, _, _, _, _, _, _, _, _, _, by k_is, by k_is, by k_is⟩,
      f_is_name_sign := ⟨by k_is, _, _, _, _, _, _, _, _, _, by k_is, by k_is, by k_is⟩,
      f_is_body_sign := ⟨by k_is, _, _, _, _, _, _, _, _, _, by k_is, by k_is, by k_is⟩,
      f_is_bare_sign := ⟨by k_is, _, _, _, _, _, _, _, _, _, by k_is, by k_is, by k_is⟩,
      f_Token_init := ⟨trivial, _, _, _, _, _, _, _, _, _, by k_is, by k_is, by k_is⟩,
      f_Reader_init := ⟨trivial, _, _, _, _, _, _, _, _, _, by k_is, by k_is, by k_is⟩,
      f_Reader_renew := ⟨⟨by k_is, by k_is⟩, _, _, _, _, _, _, _, _, _, by k_is, by k_is, by k_is⟩,
      f_Reader_fail := ⟨⟨by k_is, by k_is⟩, _, _, _, _, _, _, _, _, _, by k_is, by k_is, by k_is⟩,
      f_Reader_add_token := ⟨⟨by k_is, by k_is⟩, _, _, _, _, _, _, _, _, _, by k_is, by k_is, by k_is⟩,
      f_Reader_end_run := ⟨⟨by k_is, by k_is⟩, _, _, _, _, _, _, _, _, _, by k_is, by k_is, by k_is⟩,
      f_Reader_end_attribute := ⟨⟨by k_is, by k_is⟩, _, _, _, _, _, _, _, _, _, by k_is, by k_is, by k_is⟩,
      f_Reader_add_open_tag := ⟨⟨by k_is, by k_is⟩, _, _, _, _, _, _, _, _, _, by k_is, by k_is, by k_is⟩,
      f_Reader_end_tag := ⟨⟨by k_is, by k_is⟩, _, _, _, _, _, _, _, _, _, by k_is, by k_is, by k_is⟩,
      f_Reader_end_open_tag := ⟨⟨by k_is, by k_is⟩, _, _, _, _, _, _, _, _, _, by k_is, by k_is, by k_is⟩,
      f_Reader_end_ended_tag := ⟨⟨by k_is, by k_is⟩, _, _, _, _, _, _, _, _, _, by k_is, by k_is, by k_is⟩,
      f_digit_value := ⟨by k_is, _, _, _, _, _, _, _, _, _, by k_is, by k_is, by k_is⟩,
      f_number_byte := ⟨by k_is, _, _, _, _, _, _, _, _, _, by k_is, by k_is, by k_is⟩,
      f_reference_byte := ⟨by k_is, _, _, _, _, _, _, _, _, _, by k_is, by k_is, by k_is⟩,
      f_read_in_text := ⟨by k_is, _, _, _, _, _, _, _, _, _, by k_is, by k_is, by k_is⟩,
      f_end_run_of_text := ⟨by k_is, _, _, _, _, _, _, _, _, _, by k_is, by k_is, by k_is⟩,
      f_read_in_reference := ⟨by k_is, _, _, _, _, _, _, _, _, _, by k_is, by k_is, by k_is⟩,
      f_end_reference := ⟨by k_is, _, _, _, _, _, _, _, _, _, by k_is, by k_is, by k_is⟩,
      f_read_behind_less := ⟨by k_is, _, _, _, _, _, _, _, _, _, by k_is, by k_is, by k_is⟩,
      f_add_to_name := ⟨by k_is, _, _, _, _, _, _, _, _, _, by k_is, by k_is, by k_is⟩,
      f_read_in_open_tag_name := ⟨by k_is, _, _, _, _, _, _, _, _, _, by k_is, by k_is, by k_is⟩,
      f_read_behind_part_of_tag := ⟨by k_is, _, _, _, _, _, _, _, _, _, by k_is, by k_is, by k_is⟩,
      f_read_behind_less_slash := ⟨by k_is, _, _, _, _, _, _, _, _, _, by k_is, by k_is, by k_is⟩,
      f_read_in_close_tag_name := ⟨by k_is, _, _, _, _, _, _, _, _, _, by k_is, by k_is, by k_is⟩,
      f_end_close_tag := ⟨by k_is, _, _, _, _, _, _, _, _, _, by k_is, by k_is, by k_is⟩,
      f_read_in_gap := ⟨by k_is, _, _, _, _, _, _, _, _, _, by k_is, by k_is, by k_is⟩,
      f_read_in_attribute_name := ⟨by k_is, _, _, _, _, _, _, _, _, _, by k_is, by k_is, by k_is⟩,
      f_read_behind_equals := ⟨by k_is, _, _, _, _, _, _, _, _, _, by k_is, by k_is, by k_is⟩,
      f_read_in_quotes := ⟨by k_is, _, _, _, _, _, _, _, _, _, by k_is, by k_is, by k_is⟩,
      f_read_in_apostrophes := ⟨by k_is, _, _, _, _, _, _, _, _, _, by k_is, by k_is, by k_is⟩,
      f_read_between := ⟨by k_is, _, _, _, _, _, _, _, _, _, by k_is, by k_is, by k_is⟩,
      f_read_in_bare_value := ⟨by k_is, _, _, _, _, _, _, _, _, _, by k_is, by k_is, by k_is⟩,
      f_read_behind_slash := ⟨by k_is, _, _, _, _, _, _, _, _, _, by k_is, by k_is, by k_is⟩,
      f_read_dash_ahead_of_comment := ⟨by k_is, _, _, _, _, _, _, _, _, _, by k_is, by k_is, by k_is⟩,
      f_read_in_comment := ⟨by k_is, _, _, _, _, _, _, _, _, _, by k_is, by k_is, by k_is⟩,
      f_read_behind_one_dash := ⟨by k_is, _, _, _, _, _, _, _, _, _, by k_is, by k_is, by k_is⟩,
      f_read_behind_two_dashes := ⟨by k_is, _, _, _, _, _, _, _, _, _, by k_is, by k_is, by k_is⟩,
      f_read_in_raw_text := ⟨by k_is, _, _, _, _, _, _, _, _, _, by k_is, by k_is, by k_is⟩,
      f_read_in_raw_text_behind_less := ⟨by k_is, _, _, _, _, _, _, _, _, _, by k_is, by k_is, by k_is⟩,
      f_read_in_raw_close_tag := ⟨by k_is, _, _, _, _, _, _, _, _, _, by k_is, by k_is, by k_is⟩,
      f_end_raw_element := ⟨by k_is, _, _, _, _, _, _, _, _, _, by k_is, by k_is, by k_is⟩,
      f_takes_marks := ⟨by k_is, _, _, _, _, _, _, _, _, _, by k_is, by k_is, by k_is⟩,
      f_read_sign := ⟨by k_is, _, _, _, _, _, _, _, _, _, by k_is, by k_is, by k_is⟩,
      f_read_signs := ⟨by k_is, _, _, _, _, _, _, _, _, _, by k_is, by k_is, by k_is⟩,
      f_read_end := ⟨by k_is, _, _, _, _, _, _, _, _, _, by k_is, by k_is, by k_is⟩,
      f_with_references := ⟨by k_is, _, _, _, _, _, _, _, _, _, by k_is, by k_is, by k_is⟩,
      f_write_run_of_text := ⟨by k_is, _, _, _, _, _, _, _, _, _, by k_is, by k_is, by k_is⟩,
      f_write_attribute := ⟨by k_is, _, _, _, _, _, _, _, _, _, by k_is, by k_is, by k_is⟩,
      f_write_open_tag := ⟨by k_is, _, _, _, _, _, _, _, _, _, by k_is, by k_is, by k_is⟩,
      f_write_close_tag := ⟨by k_is, _, _, _, _, _, _, _, _, _, by k_is, by k_is, by k_is⟩,
      f_write_comment := ⟨by k_is, _, _, _, _, _, _, _, _, _, by k_is, by k_is, by k_is⟩,
      f_write_raw_text := ⟨by k_is, _, _, _, _, _, _, _, _, _, by k_is, by k_is, by k_is⟩,
      f_write_tokens := ⟨by k_is, _, _, _, _, _, _, _, _, _, by k_is, by k_is, by k_is⟩,
      f_reads_no_more := ⟨by k_is, _, _, _, _, _, _, _, _, _, by k_is, by k_is, by k_is⟩,
      f_fault_now := ⟨by k_is, _, _, _, _, _, _, _, _, _, by k_is, by k_is, by k_is⟩,
      f_refusal_of := ⟨by k_is, _, _, _, _, _, _, _, _, _, by k_is, by k_is, by k_is⟩,
      f_with_length := ⟨by k_is, _, _, _, _, _, _, _, _, _, by k_is, by k_is, by k_is⟩,
      f_begin := ⟨by k_is, _, _, _, _, _, _, _, _, _, by k_is, by k_is, by k_is⟩,
      f_feed := ⟨by k_is, _, _, _, _, _, _, _, _, _, by k_is, by k_is, by k_is⟩,
      f_end := ⟨by k_is, _, _, _, _, _, _, _, _, _, by k_is, by k_is, by k_is⟩,
      f_fault := ⟨by k_is, _, _, _, _, _, _, _, _, _, by k_is, by k_is, by k_is⟩,
      f_tokens := ⟨by k_is, _, _, _, _, _, _, _, _, _, by k_is, by k_is, by k_is⟩,
      f_parts_of_open_tag := ⟨by k_is, _, _, _, _, _, _, _, _, _, by k_is, by k_is, by k_is⟩,
      f_token := ⟨by k_is, _, _, _, _, _, _, _, _, _, by k_is, by k_is, by k_is⟩,
      f_state := ⟨by k_is, _, _, _, _, _, _, _, _, _, by k_is, by k_is, by k_is⟩,
      f_marks := ⟨by k_is, _, _, _, _, _, _, _, _, _, by k_is, by k_is, by k_is⟩,
      f_written := ⟨by k_is, _, _, _, _, _, _, _, _, _, by k_is, by k_is, by k_is⟩,
      f_whole := ⟨by k_is, _, _, _, _, _, _, _, _, _, by k_is, by k_is, by k_is⟩,
      f_length_of_call := ⟨by k_is, _, _, _, _, _, _, _, _, _, by k_is, by k_is, by k_is⟩,
      f_answer_of := ⟨by k_is, _, _, _, _, _, _, _, _, _, by k_is, by k_is, by k_is⟩,
      f_answers := ⟨by k_is, _, _, _, _, _, _, _, _, _, by k_is, by k_is, by k_is⟩ }
    obtain ⟨fd, h1, h2⟩ := Mr.all_of (Mr.tx_of (P := PySem.Challenge.rw_markreader_s01_answers.prog) (w := w) KX G R) hmg
    exact ⟨fd, h1, fun base _ _ => h2 base⟩
  case S =>
    intro K H xs a hO hwi hask hx
    cases hx with
    | cons h1 h2 =>
      cases h2
      cases h1 with
      | lst hs ha =>
        have e := L2.ints_dw a.1 _ ha
        subst e
        have q : ((Codec.inLen 0 30000 a.1 && a.1.all (Codec.inInt (-2147483648) 2147483647)) && true) = true := hwi
        rw [Bool.and_eq_true, Bool.and_eq_true] at q
        exact ⟨_, a.1, rfl, hs, (Codec.inNat_iff.mp q.1.1).2, hask, fun H' p hp => .lst (L2.SqL.of hp) (L2.dw_ints _)⟩
#print axioms PySem.Challenge.cw_markreader_s01_answers_holds

