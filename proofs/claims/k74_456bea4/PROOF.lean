import PyProof.Rows.All
import Wide.All
import OpenK.AllK
import Wide.FinOn
import Lean
import PyProof.EqAt
import PyProof.EqKinds
import PyProof.TupleCall
import PySem.Challenge.RW_gainstream_k74_one_too_many
set_option Elab.async false
namespace PySem.W
open PySem PySem.Spec PySem.Calls PyProof.Rows
def livO : Option Obj → Option Obj
  | some ⟨_, _, .freed, _⟩ => none
  | o => o
noncomputable def pkL (l : List Obj) : List Addr → Nat → List (Option Obj) :=
  @List.rec Obj (fun _ => List Addr → Nat → List (Option Obj)) (fun _ _ => []) (fun o _ r as i =>
    @List.rec Addr (fun _ => List (Option Obj)) [] (fun a as' _ => @Bool.rec (fun _ => List (Option Obj)) (r as (Nat.succ i)) (livO (some o) :: r as' (Nat.succ i)) (Nat.beq a i)) as) l
theorem pkL_nil (as : List Addr) (i : Nat) : pkL [] as i = [] := rfl
theorem pkL_none (o : Obj) (l : List Obj) (i : Nat) : pkL (o :: l) [] i = [] := rfl
theorem pkL_cons (o : Obj) (l : List Obj) (a : Addr) (as : List Addr) (i : Nat) : pkL (o :: l) (a :: as) i = @Bool.rec (fun _ => List (Option Obj)) (pkL l (a :: as) (i + 1)) (livO (some o) :: pkL l as (i + 1)) (Nat.beq a i) := rfl
theorem pkL_at : ∀ (l : List Obj) (as : List Addr) (i : Nat), (pkL l as i).length = as.length → (∀ a ∈ as, i ≤ a) ∧ as.map (fun a => livO l[a - i]?) = pkL l as i
  | [], as, i, h => by
    cases as with
    | nil => exact ⟨fun _ z => (nomatch z), rfl⟩
    | cons a as => rw [pkL_nil] at h; cases h
  | o :: l, [], i, _ => ⟨fun _ z => (nomatch z), rfl⟩
  | o :: l, a :: as, i, h => by
    have up : ∀ bs : List Addr, (∀ b ∈ bs, i + 1 ≤ b) → bs.map (fun b => livO (o :: l)[b - i]?) = bs.map (fun b => livO l[b - (i + 1)]?) := fun bs hb => by
      refine List.map_congr_left fun b z => ?_
      have := hb b z
      show livO (o :: l)[b - i]? = livO l[b - (i + 1)]?
      rw [show b - i = (b - (i + 1)) + 1 by omega]
      rfl
    rw [pkL_cons] at h ⊢
    cases e : Nat.beq a i with
    | true =>
      have ea := Nat.eq_of_beq_eq_true e
      subst ea
      rw [e] at h
      obtain ⟨h1, h2⟩ := pkL_at l as (a + 1) (Nat.succ.inj h)
      refine ⟨fun b z => ?_, ?_⟩
      · rcases List.mem_cons.mp z with rfl | z
        · exact Nat.le_refl _
        · exact Nat.le_of_succ_le (h1 b z)
      · show livO (o :: l)[a - a]? :: as.map _ = livO (some o) :: _
        rw [Nat.sub_self, up as h1, h2]
        rfl
    | false =>
      rw [e] at h
      obtain ⟨h1, h2⟩ := pkL_at l (a :: as) (i + 1) h
      exact ⟨fun b z => Nat.le_of_succ_le (h1 b z), (up _ h1).trans h2⟩
theorem pk_in {K : Frag} {h : Heap} {as : List Addr} (e : as = K.map (·.1)) (x : pkL h.objs.toList as 0 = K.map fun p => some p.2) : K.In h := by
  refine Frag.in_of e ?_
  have z := (pkL_at h.objs.toList as 0 (by rw [x, e, List.length_map, List.length_map])).2
  rw [x] at z
  refine Eq.trans (List.map_congr_left fun a _ => ?_) z
  show livO h.objs[a]? = livO h.objs.toList[a - 0]?
  rw [Nat.sub_zero, Array.getElem?_toList]
noncomputable def pkHook (K : Params → Frag) (as : List Addr) (e : ∀ P, as = (K P).map (·.1)) (us : List Addr) : Hook where
  α := List (Option Obj) × List (Option Obj)
  obs := fun z => (pkL z.heap.objs.toList as 0, us.map z.heap.get?)
  val := fun v => ((K v.params).map fun y => some y.2, us.map fun _ => some (tabObj #[]))
  says := fun v H => (K v.params).In H ∧ ∀ q ∈ us, H.get? q = some (tabObj #[])
  of := fun _ _ y => ⟨pk_in (e _) (Prod.mk.inj y).1, List.map_inj_left.mp (Prod.mk.inj y).2⟩
  keeps := fun v H H' y s => ⟨InK.keeps v H H' y.1 s, fun q hq => s _ _ (y.2 q hq)⟩
theorem pk_in_of {K : Params → Frag} {as us : List Addr} {e : ∀ P, as = (K P).map (·.1)} {v : World} {H : Heap} (Y : (pkHook K as e us).says v H) : (K v.params).In H := Y.1
end PySem.W
open Lean in
local macro_rules | `(tactic| o_head $H) => do
  let s := if H.raw.isOfKind ``Lean.Parser.Term.paren then H.raw[1] else H.raw
  if s.isOfKind ``Lean.Parser.Term.app && s[0].getId.eraseMacroScopes == `kmHook then
    let n : TSyntax `term := ⟨s.setArg 0 (mkIdent `PySem.W.pkHook)⟩
    `(tactic| o_head ($n))
  else Macro.throwUnsupported
namespace PySem.W.Fast
def tw10772480192997399177:=()
def tw10717158114460017896:=()
def tw13092365555005299827:=()
def tw2816278949768501329:=()
def tw1180052110215011518:=()
def tw9848702320438850272:=()
def tw7365321098026611288:=()
def tw8620652548973580201:=()
def tw12304119638073787263:=()
def tw4990815077753540512:=()
def tw5097495991504150915:=()
def tw8696254691508880559:=()
def tw13057312430126182694:=()
def tw2016808998482878862:=()
def tw8172056351434529804:=()
def tw7800313085373064949:=()
def tw12399785495095376966:=()
def tw17178644852418607145:=()
def tw15918119100463797450:=()
def tw11272964932982883826:=()
def tw7650432198008271582:=()
def tw11107699618139097519:=()
def tw4099129683398261064:=()
def tw10054910321804821127:=()
def tw4110484203852074596:=()
def tw15758430366346237607:=()
def tw3333365855672913549:=()
def tw9330695460543593463:=()
def tw5771988785530176403:=()
def tw7089890599484722789:=()
def tw16634910272314214809:=()
def tw6307162211604565291:=()
def tw9278731140121834884:=()
def tw14543374792090169521:=()
def tw5765293759933513102:=()
def tw10492734501289823765:=()
def tw10933584786356614734:=()
def tw4580515380097388840:=()
def tw6911402154152105024:=()
def tw5320903233394399412:=()
def tw8457039447266226725:=()
def tw15643512877336395857:=()
def tw11814358259175592617:=()
def tw6096196828671234060:=()
def tw8312523658097155728:=()
def tw6915088110268211479:=()
def tw18172656477867122145:=()
def tw14714952799678455554:=()
def tw17498622459761183068:=()
def tw3470979501754323624:=()
def tw6659175878747976795:=()
def tw1190940980290445946:=()
def tw8032811465928074404:=()
def tw11767968028110979738:=()
def tw14904087856696911543:=()
def tw10630189300519104009:=()
def tw2744073302798058320:=()
def tw15725093869099540821:=()
def tw13229393075907918440:=()
def tw15822740202625357068:=()
def tw15738304448097367680:=()
def tw17919961361777188601:=()
def tw9698852865363871508:=()
def tw5843864841372157675:=()
def tw7780514236270743598:=()
def tw5574476118421242763:=()
def tw9695063420213550306:=()
def tw18388594568384876694:=()
def tw2536968826313963666:=()
def tw109390603049350014:=()
def tw1290190312612799724:=()
def tw1706887672511141508:=()
def tw796465096330180621:=()
def tw13594536132632418429:=()
def tw7325496987591714453:=()
def tw6627985560849044443:=()
def tw7720549845774362869:=()
def tw10753047209172571891:=()
def tw4968773019202407260:=()
def tw14414117456189377648:=()
def tw2666757179854369976:=()
def tw9533384594009865704:=()
def tw6167750620625937104:=()
def tw10634780347520791650:=()
def tw10196831140287419936:=()
def tw12000610880780106795:=()
def tw4243808042223029001:=()
def tw17460813465777682507:=()
def tw1904955789613085839:=()
def tw16256653988366314246:=()
def tw15800891372095488168:=()
def tw12274590144411339515:=()
def tw206186393719383405:=()
def tw15281531928902223604:=()
def tw1460658848804595286:=()
def tw11541385574949713024:=()
def tw17208808983116502087:=()
def tw6566854924274783782:=()
def tw15097082445997756839:=()
def tw462039538427245192:=()
def tw8440282767417492365:=()
def tw8076483286439888579:=()
def tw3202528324021999073:=()
def tw12082867894612577694:=()
def tw11341535523782197242:=()
def tw8457433721181733198:=()
def tw9117454654035433859:=()
def tw575929724720399009:=()
def tw17405553368884546069:=()
def tw17043264127809876601:=()
def tw6098534899099132754:=()
def tw11230605610602309412:=()
def tw5627061340617842266:=()
def tw17308843082486068344:=()
def tw5925922989335154214:=()
def tw4133080395599841252:=()
def tw15452510663568050824:=()
def tw996124912429485641:=()
def tw18013944705929267600:=()
def tw16189691955615117713:=()
def tw3558540449655868272:=()
def tw1246468793446438971:=()
def tw17648120365355617138:=()
def tw11196674386147400383:=()
def tw3425265345588089140:=()
def tw104524669831038138:=()
def tw11415246133487811297:=()
def tw1850923572535410887:=()
def tw13801745612683187980:=()
def tw13321101554335891676:=()
def tw14542673917928224343:=()
def tw7334681332113805412:=()
def tw14981001807445577538:=()
def tw3074446904426971671:=()
def tw12998242054815258304:=()
def tw5372471163777047079:=()
def tw1291890173408409535:=()
def tw17359457794846511860:=()
def tw10136477724808099817:=()
def tw9184580448894261739:=()
def tw9691778521189931224:=()
def tw8493503649155783638:=()
def tw1643346697376179227:=()
def tw7685911973493664800:=()
def tw9519536388470426197:=()
def tw13384461332478671145:=()
def tw13539145921487551790:=()
def tw11381182255264647170:=()
def tw10582268768993458031:=()
def tw10662825978785478975:=()
def tw12190993125083959491:=()
def tw18216004321488561947:=()
def tw3469823050982572847:=()
def tw9576774211835736915:=()
def tw8514932783526761805:=()
def tw6646442768006364740:=()
def tw3388269219614254276:=()
def tw2587333553260861703:=()
def tw16263851840715596645:=()
def tw11225094450607677722:=()
def tw231960613446501707:=()
def tw15712317804677060509:=()
def tw13083296913988932551:=()
def tw9958554323520174539:=()
def tw9502668081251487226:=()
def tw8907823282620446676:=()
def tw13369417360940366669:=()
def tw11816287544625294123:=()
def tw13883811583286223227:=()
def tw2307057599268257899:=()
def tw10977611812379249325:=()
def tw17006305018632073257:=()
def tw1354548654121056332:=()
def tw4768650220938399633:=()
def tw3601162653008406383:=()
def tw12548266640274857640:=()
def tw16971909851066923786:=()
def tw2270004854900389291:=()
def tw10067112786851583420:=()
def tw15901269675566286719:=()
def tw16748074153024165065:=()
def tw11466630159754192635:=()
def tw7874242844342314273:=()
def tw3216606074724391435:=()
def tw16803527506620065955:=()
def tw7319256800933321753:=()
def tw3499440587409382093:=()
def tw15914196096749212963:=()
def tw11486798050995378760:=()
def tw12524314517160133380:=()
def tw7812974866418576592:=()
def tw5331843841799249994:=()
def tw16196588461754792461:=()
def tw1888400453401149889:=()
def tw12543423583465445442:=()
def tw3736668963637839789:=()
def tw10622551280079782907:=()
def tw6114086872431310405:=()
def tw10700589858711398187:=()
def tw9997545470535223120:=()
def tw8283790385260451086:=()
def tw7355275490841624425:=()
def tw10526399915147563192:=()
def tw1455253276264765376:=()
def tw11871008206953041819:=()
def tw12238481750174729437:=()
def tw100713460550615144:=()
def tw14166789015387453134:=()
def tw3977444676414680371:=()
def tw55616006266762007:=()
def tw7429578613914446180:=()
def tw16494515745420721205:=()
def tw15470698087008048164:=()
def tw15062743601549771246:=()
def tw5423890988914695766:=()
def tw8508797777538440487:=()
def tw5135211733951764216:=()
def tw10097212991951087765:=()
def tw3956567263149183028:=()
def tw3418843681577875801:=()
def tw11788668775667910562:=()
def tw6578822894520020612:=()
def tw10295993609068474048:=()
def tw15661413946335556743:=()
def tw11660835506320164044:=()
def tw14725864571304110011:=()
def tw731755460624166128:=()
def tw4475550257842770670:=()
def tw1154672265493428166:=()
def tw4382023647584928911:=()
def tw3475248263560536059:=()
def tw15975269066746696276:=()
def tw14960603020015851952:=()
def tw5055162219182474865:=()
def tw16573260715298381751:=()
def tw4820172630076726240:=()
def tw17964376105936902659:=()
def tw13636284482954747780:=()
def tw10966658514225101273:=()
def tw6709333319208663554:=()
def tw9274921979120115694:=()
def tw10647669853702230907:=()
def tw7806609349142099853:=()
def tw6267060212604967947:=()
def tw3602911728425373052:=()
def tw11532817657909708397:=()
def tw5021172216305898356:=()
def tw10999212399910905791:=()
def tw13269710561522508958:=()
def tw14801588506110805131:=()
def tw9730097732811858674:=()
def tw8712036344105543990:=()
def tw8038221917065274796:=()
def tw10729089521398993653:=()
def tw9184948836561497074:=()
def tw610503811262663566:=()
def tw1555425736925902373:=()
def tw6968638138250322780:=()
def tw1508742620093311544:=()
def tw13528960283813972958:=()
def tw13943791373028151635:=()
def tw3481599376268331028:=()
def tw656076976505314768:=()
def tw8131283226445295704:=()
def tw1797271177117265177:=()
def tw292555475617106069:=()
def tw8144837610078358726:=()
def tw10505782844626893840:=()
def tw6661344479794308689:=()
def tw2229740934361400211:=()
def tw15508195445653789112:=()
def tw10457572954447642259:=()
def tw13591251732039467600:=()
def tw5333440664258000132:=()
def tw2512309490471954205:=()
def tw7202168869917462295:=()
def tw17448439738334134226:=()
def tw3549760631204439444:=()
def tw17569575567676784955:=()
def tw9819565522343938944:=()
def tw16377340918734222834:=()
def tw7306717277139135321:=()
def tw10812127495439082312:=()
def tw497989000492683423:=()
def tw2370178777935484441:=()
def tw16117570048944667639:=()
def tw15048695284344559667:=()
def tw6946909892258404137:=()
def tw4442078632786471187:=()
def tw13800962149007202297:=()
def tw6202062535800656672:=()
def tw13593003171194140824:=()
def tw8036752844894575253:=()
def tw4775251474330457110:=()
def tw8720733977533716630:=()
def tw6184907340567346994:=()
def tw2899606722828015602:=()
def tw9026852324466961759:=()
def tw15051054626051883233:=()
def tw5013894880451359824:=()
def tw10148411895108547382:=()
def tw17135901150712525695:=()
def tw16718777080093979574:=()
def tw7874170885885421268:=()
def tw2455632696538623903:=()
def tw14709449212166022006:=()
def tw12121819615526734440:=()
def tw11604143972207384954:=()
def tw1382984550407046758:=()
def tw11830430712793336469:=()
def tw9913732656224284562:=()
def tw2025096719183312992:=()
def tw17241810881744886857:=()
def tw10277824835783870559:=()
def tw16843256779787051991:=()
def tw7446975738798898559:=()
def tw9808124976870662592:=()
def tw11623842541353716398:=()
def tw9044170131058610977:=()
def tw16192675159144266958:=()
def tw11606503267814402759:=()
def tw16448230260026071635:=()
def tw18205011837682558576:=()
def tw17953812139656676023:=()
def tw7926451648794292519:=()
def tw11159925986743032866:=()
def tw10913169826993317175:=()
def tw6044556016246569497:=()
def tw9261751111348312021:=()
def tw2317858263227183162:=()
def tw18021893878560366412:=()
def tw6738175481999662274:=()
def tw2473995883927313925:=()
def tw1566443938015206673:=()
def tw5707190516107622391:=()
def tw8379680942769965076:=()
def tw4635903132376174553:=()
def tw7684485668253343017:=()
def tw1069661409035050891:=()
def tw12599206126805488426:=()
def tw14066859260633965018:=()
def tw16967515094065437786:=()
def tw15090758518516092304:=()
def tw2107763844740524511:=()
def tw15704518472258682234:=()
def tw1096486239681797875:=()
def tw11074112050455203017:=()
def tw9688439784209234140:=()
def tw17359743639725898353:=()
def tw2471574489148182215:=()
def tw13204388941190360006:=()
def tw2345353284981650897:=()
def tw13752845919043689925:=()
def tw1869562848681394470:=()
def tw8433254126365662287:=()
def tw7853510361312562613:=()
def tw12753990870841271094:=()
def tw7480977538760793947:=()
def tw8621461753796699739:=()
def tw9164534076817354714:=()
def tw5877000589963674420:=()
def tw1637894264474567546:=()
def tw18211873658758141343:=()
def tw16400409122470415458:=()
def tw1080403295878772094:=()
def tw8257444590698860922:=()
def tw2495971909733726747:=()
def tw8634935252740329727:=()
def tw16425569767843626300:=()
def tw17922136512721986107:=()
def tw12948469782048509263:=()
def tw4729044277688976988:=()
def tw6017751989773268821:=()
def tw10711767980614818592:=()
def tw14677881453147288417:=()
def tw15287770822320776747:=()
def tw4830813532575766037:=()
def tw15887022582082540733:=()
def tw17875479394673816455:=()
def tw17288643081551191322:=()
def tw10176859017354278893:=()
def tw3501542478046684103:=()
def tw8260192581169366148:=()
def tw6801318074886275901:=()
def tw3412401756767320408:=()
def tw10427885244533568273:=()
def tw5631342978657187280:=()
def tw2297642804718358270:=()
def tw14272593247814868226:=()
def tw3582898103570527390:=()
def tw2964257371029603172:=()
def tw649287589679027646:=()
def tw766619236096942267:=()
def tw3946361135344193531:=()
def tw8623181153981610780:=()
def tw15360543890581367092:=()
def tw12485058565664334742:=()
def tw13780875874907083689:=()
def tw6919183972877342869:=()
def tw17287195670581669685:=()
def tw15486771156178945082:=()
def tw85291641730732015:=()
def tw4667321645641499038:=()
def tw9274824142149266651:=()
def tw15583839098748499315:=()
def tw9192959117368948767:=()
def tw8448493883610722783:=()
def tw16576017915058991447:=()
def tw11290632252074158159:=()
def tw10927099580050607223:=()
def tw13674288461593341400:=()
def tw11528807531292544055:=()
end PySem.W.Fast
section
open PySem PySem.W PyProof.Rows
set_option maxRecDepth 100000
set_option maxHeartbeats 0
open_top PySem.Challenge.hdk74 for PySem.Challenge.rw_gainstream_k74_one_too_many
end
set_option compiler.extract_closed false
theorem zL0:0<=PySem.sizeLine:=by decide
theorem zL1:1<=PySem.sizeLine:=by decide
theorem zL2:2<=PySem.sizeLine:=by decide
theorem zL3:3<=PySem.sizeLine:=by decide
theorem zL4:4<=PySem.sizeLine:=by decide
theorem zI1000:(0:Int)<1000:=by decide
theorem zI12:(0:Int)<12:=by decide
theorem zI14:(0:Int)<14:=by decide
theorem zI2:(0:Int)<2:=by decide
theorem zI2147483647:(0:Int)<2147483647:=by decide
theorem zI26:(0:Int)<26:=by decide
theorem zI3:(0:Int)<3:=by decide
def eo:=@PySem.wpAny_bind
def et:=@PySem.strLen_append
def eA:=@PySem.Heap.get?_push_of_some
def eB.{u0,u1}:=@List.length_map.{u0,u1}
def eC:=@Nat.le_refl
def eD:=@decide_eq_false
def eE:=@PyProof.Rows.boot_isinstance
def eF:=@PySem.sizeLine_eq
def eG.{u0}:=@List.getElem?_eq_some_iff.{u0}
def eI.{u0}:=@List.getElem?_eq_getElem.{u0}
def eJ:=@PySem.wpAny_pure
def eK:=@decide_eq_true
def eL:=@PySem.Heap.lt_size
def eM:=@PySem.Heap.get?_push_size
def eN.{u0,u1}:=@List.getElem?_map.{u0,u1}
def eO:=@Bool.false_ne_true
def eP:=@Nat.lt_of_lt_of_le
def eQ:=@Nat.le_trans
def eR.{u0}:=@List.mem_append_right.{u0}
def eS:=@Nat.lt_of_le_of_lt
def eT.{u0}:=@List.mem_cons.{u0}
def eU.{u0}:=@List.size_toArray.{u0}
def eV.{u0}:=@List.length_cons.{u0}
def eW.{u0}:=@List.mem_cons_of_mem.{u0}
def eX.{u0,u1}:=@List.mem_map.{u0,u1}
def eY.{u0}:=@List.mem_cons_self.{u0}
def eZ.{u0}:=@Option.some.inj.{u0}
def fb.{u0,u1}:=@List.lookup_cons.{u0,u1}
def fe.{u0}:=@Array.length_toList.{u0}
def fg:=@Nat.ne_of_lt
def fh:=@PySem.wpAny_mono
def fj.{u0,u1}:=@Option.map_eq_some_iff.{u0,u1}
def fk.{u0}:=@List.mem_of_getElem?.{u0}
def fm.{u0}:=@List.length_append.{u0}
def fo.{u0,u1}:=@List.map_append.{u0,u1}
def ft.{u0,u1,u2}:=@List.map_map.{u0,u1,u2}
def fu:=@PySem.W.kia_one
def fv.{u0,u1}:=@congrArg.{u0,u1}
def fw:=@Nat.lt_irrefl
def fz.{u0,u1}:=@List.map_cons.{u0,u1}
def fA.{u0}:=@List.not_mem_nil.{u0}
def fB:=@PySem.mem_of_lookup
def fE:=@PyProof.Rows.boot_str
def fF.{u0}:=@List.getElem?_append_right.{u0}
def fG:=@PySem.wpAny_field
def fH.{u0}:=@List.getD_eq_getElem?_getD.{u0}
def fJ.{u0,u1}:=@Option.map_some.{u0,u1}
def fK:=@PySem.Heap.get?_update_other
def fL.{u0}:=@List.all_eq_true.{u0}
def fM.{u0}:=@beq_eq_false_iff_ne.{u0}
def fO.{u0}:=@List.mem_iff_getElem?.{u0}
def fP:=@Nat.zero_le
def fQ.{u0}:=@List.length_take.{u0}
def fR:=@PySem.F.plainAttrs_dict
def fS.{u0}:=@Array.getElem?_eq_some_iff.{u0}
def fT:=@PyProof.Rows.boot_list
def fU:=@PySem.PassesOwn.never
def fV:=@PySem.W.methodCall_KW
def fW:=@PySem.wpAny_Call_Name_kw
def fX:=@PySem.W.callWith_K
def fY.{u0}:=@Option.toList_some.{u0}
def fZ:=@Bool.and_false
def f6:=@PySem.boot_len
set_option Elab.async false
set_option linter.all false
set_option maxRecDepth 100000
namespace L2
open PySem PySem.Spec PyProof.Rows
noncomputable abbrev Key:=Sum Int Str
noncomputable def keyIs:Key->Value->Bool
 | .inl k,v=>Value.isInt k v
 | .inr x,v=>Value.isStrOf x v
noncomputable def keyH (w:World):Key->Int
 | .inl k=>hashInt k
 | .inr x=>hashStr w x
theorem aW:∀ {k:Key} {v:Value},keyIs k v=true->(∃ i t,k=Sum.inl i/\v=Value.int i t)∨(∃ x t,k=Sum.inr x/\v=Value.str x t)
 | .inl i,v,h=>by
  obtain ⟨t,e⟩:=Value.isInt_shape (k:=i) (v:=v) h;exact .inl ⟨i,t,rfl,e⟩
 | .inr x,v,h=>by
  obtain ⟨t,e⟩:=Value.isStrOf_shape (x:=x) (v:=v) h;exact .inr ⟨x,t,rfl,e⟩
theorem keyIs_int (i:Int) (t:Tok):keyIs (.inl i) (.int i t)=true:=by simp [keyIs,Value.isInt]
theorem keyIs_str (x:Str) (t:Tok):keyIs (.inr x) (.str x t)=true:=by simp [keyIs,Value.isStrOf]
theorem key_ll (a b:Int):decide ((Sum.inl a:Key)=Sum.inl b)=(a == b):=by
 by_cases e:a=b
 ·subst e;simp
 ·have h:¬ (Sum.inl a:Key)=Sum.inl b:=λ q=>e (Sum.inl.inj q);rw [eD h];exact (fM.mpr e).symm
theorem key_rr (a b:Str):decide ((Sum.inr a:Key)=Sum.inr b)=decide (a=b):=by
 by_cases e:a=b
 ·subst e;simp
 ·have h:¬ (Sum.inr a:Key)=Sum.inr b:=λ q=>e (Sum.inr.inj q);rw [eD h,eD e]
theorem key_lr (a:Int) (b:Str):decide ((Sum.inl a:Key)=Sum.inr b)=false:=eD (λ q=>nomatch q)
theorem key_rl (a:Str) (b:Int):decide ((Sum.inr a:Key)=Sum.inl b)=false:=eD (λ q=>nomatch q)
noncomputable def aR (prog:Program) (w:World):PySem.KeyKind prog w Key where
 is:=keyIs
 hash:=keyH w
 inj:=λ v a b ha hb=>by
  rcases aW ha with ⟨i,t,rfl,rfl⟩ | ⟨x,t,rfl,rfl⟩
  ·rcases aW hb with ⟨j,u,rfl,e⟩ | ⟨y,u,rfl,e⟩
   ·injection e with e1 _;rw [e1]
   ·exact nomatch e
  ·rcases aW hb with ⟨j,u,rfl,e⟩ | ⟨y,u,rfl,e⟩
   ·exact nomatch e
   ·injection e with e1 _;rw [e1]
 byValue:=λ k v h=>by
  rcases aW h with ⟨i,t,rfl,rfl⟩ | ⟨x,t,rfl,rfl⟩ <;> rfl
 pyHash:=λ hv h=>by
  rcases aW hv with ⟨i,t,rfl,rfl⟩ | ⟨x,t,rfl,rfl⟩
  ·exact wpAny_pyHash_int h
  ·exact wpAny_pyHash_str h
 eqBool:=λ hu hv h=>by
  rcases aW hu with ⟨i,t,rfl,rfl⟩ | ⟨x,t,rfl,rfl⟩
  ·rcases aW hv with ⟨j,u,rfl,rfl⟩ | ⟨y,u,rfl,rfl⟩
   ·rw [key_ll] at h;exact wpAny_eqBool_int h
   ·rw [key_lr] at h;exact SeqAt.EqAt.int_str i t y u _ _ _ _ h
  ·rcases aW hv with ⟨j,u,rfl,rfl⟩ | ⟨y,u,rfl,rfl⟩
   ·rw [key_rl] at h;exact SeqAt.EqAt.str_int x t j u _ _ _ _ h
   ·rw [key_rr] at h;exact wpAny_eqBool_str h
 «strs»:=λ k x t v h=>by
  rcases aW h with ⟨i,u,rfl,e⟩ | ⟨y,u,rfl,e⟩
  ·exact nomatch e
  ·injection e with e1 _
   subst e1
   cases v <;> rfl
theorem mixKind_int (prog:Program) (w:World) (i:Int) (t:Tok):(aR prog w).is (.inl i) (.int i t)=true:=keyIs_int i t
theorem mixKind_str (prog:Program) (w:World) (x:Str) (t:Tok):(aR prog w).is (.inr x) (.str x t)=true:=keyIs_str x t
end L2
namespace L2
open PySem PySem.Spec PyProof.Rows
inductive V where
 | non | bl (b:Bool) | int (i:Int) | str (x:Str) | byt (b:Array UInt8) | flt (b:UInt64) | ref (a:Addr) | ty (n:String)
 deriving DecidableEq
noncomputable def RelV:V->Value->Prop
 | .non,u=>u=Value.none
 | .bl b,u=>u=Value.bool b
 | .int i,u=>∃ t,u=Value.int i t
 | .str x,u=>∃ t,u=Value.str x t
 | .byt b,u=>∃ t,u=Value.bytes b t
 | .flt b,u=>∃ t,u=Value.float b t
 | .ref a,u=>u=Value.ref a
 | .ty n,u=>u=Value.type n
noncomputable abbrev Vals:List V->List Value->Prop:=Paired RelV
theorem Vals.length {xs:List V} {us:List Value} (r:Vals xs us):xs.length=us.length:=Paired.length r
theorem Vals.get:∀ {xs:List V} {us:List Value} {i:Nat} {x:V},Vals xs us->xs[i]?=some x->∃ u,us[i]?=some u/\RelV x u
 | _,_,_,_,.nil,e=>by simp at e
 | _,_,0,_,.cons r _,e=>by simp at e;subst e;exact ⟨_,rfl,r⟩
 | _,_,i+1,x,.cons _ t,e=>by
  obtain ⟨u,h1,h2⟩:=Vals.get (i:=i) (x:=x) t (by simpa using e);exact ⟨u,by simpa using h1,h2⟩
theorem Vals.append:∀ {xs ys:List V} {us ws:List Value},Vals xs us->Vals ys ws->Vals (xs++ys) (us++ws)
 | _,_,_,_,.nil,s=>s
 | _,_,_,_,.cons r t,s=>.cons r (Vals.append t s)
theorem Vals.take:∀ {xs:List V} {us:List Value} (n:Nat),Vals xs us->Vals (xs.take n) (us.take n)
 | _,_,0,_=>.nil
 | _,_,_+1,.nil=>.nil
 | _,_,n+1,.cons r t=>.cons r (Vals.take n t)
theorem Vals.drop:∀ {xs:List V} {us:List Value} (n:Nat),Vals xs us->Vals (xs.drop n) (us.drop n)
 | _,_,0,r=>r
 | _,_,_+1,.nil=>.nil
 | _,_,n+1,.cons _ t=>Vals.drop n t
noncomputable def RelO:Option V->Option Value->Prop
 | some v,some u=>RelV v u
 | none,none=>True
 | _,_=>False
noncomputable def KV {κ:Type}:List (κ × V)->List (κ × Value)->Prop:=Paired λ(p:κ × V) (q:κ × Value)=>p.1=q.1/\RelV p.2 q.2
noncomputable def kV:Key->V
 | .inl i=>.int i
 | .inr x=>.str x
inductive HO where
 | lst (xs:List V)
 | tup (xs:List V)
 | dK (kvs:List (Key × V)) | dT (kvs:List (List Key × V))
 | set (S:Int->Bool) (n:Nat)
 | ins (C dx:Addr) (fs:List (Str × V))
 | own (x:Addr)
 | xd (fs:List (Str × V))
 | met (f x:Addr)
 | rng (lo hi:Int)
 | frz (o:Obj) (u:HO)
 | tbl (ps:Array Value)
 | ext (φ:Heap->Prop)
noncomputable abbrev Hp:=Addr->Option HO
noncomputable def upd (H:Hp) (a:Addr) (o:HO):Hp:=λ b=>if b=a then some o else H b
theorem ac {H:Hp} {a:Addr} {o:HO}:upd H a o a=some o:=by unfold upd;rw [if_pos rfl]
theorem ag {H:Hp} {a b:Addr} {o:HO} (h:b≠a):upd H a o b=H b:=by unfold upd;rw [if_neg h]
theorem dN {H:Hp} {a:Addr} {o u:HO}:upd (upd H a o) a u=upd H a u:=by
 funext b;unfold upd;split <;> rfl
theorem cy {H:Hp} {a b:Addr} {o u:HO} (h:H a=some o) (h':H b=some u) (d:o≠u):a≠b:=by
 intro e;subst e;rw [h] at h';exact d (eZ h')
theorem ay {H:Hp} {a b:Addr} {o:HO} (h:H a=some o) (h':H b=none):a≠b:=by
 intro e;subst e;rw [h] at h';cases h'
section
variable (P:Program) (w:World)
noncomputable def ObjOk (H:Hp) (h:Heap) (a:Addr):HO->Prop
 | .lst xs=>xs.length<=sizeLine/\∃ (its:List Value) (n:Nat),Vals xs its/\h.get? a=some { cls:=.type "list",data:=.seq its.toArray n }
 | .tup xs=>xs.length<=sizeLine/\∃ its:List Value,Vals xs its/\IsTup h a its.toArray
 | .dK kvs=>kvs.length<=sizeLine/\(a == sysModules)=false/\∃ vs,KV kvs vs/\h.DictOf (aR P w) a vs
 | .dT kvs=>kvs.length<=sizeLine/\(a == sysModules)=false/\∃ xs:List (List Key × Addr × Value),
   Paired (λ(p:List Key × V) (q:List Key × Addr × Value)=>p.1=q.1/\H q.2.1=some (.tup (p.1.map kV))/\RelV p.2 q.2.2) kvs xs/\
   ∃ o es ep,h.get? a=some o/\o.ExactDict/\o.data=.dict es ep/\es.toList=xs.map (entryOfKey (tupleKind (aR P w)))/\(xs.map (·.1)).Nodup
 | .set S n=>h.SetOf (intKind P w) a S n
 | .ins C dx fs=>H dx=some (.own a)/\fs.length<=1000/\dx≠a/\h.get? a=some (PySem.W.instObj C dx)/\
   ∃ mA,h.Ns1 dx mA/\(∀ f,RelO (fs.lookup f) (mA f))/\PySem.Within mA (fs.map (·.1))
 | .own _=>∃ o,h.get? a=some o
 | .xd fs=>∃ mA,h.Ns1 a mA/\∀ f,RelO (fs.lookup f) (mA f)
 | .rng lo hi=>∃ t u v,h.get? a=some { cls:=.type "range",data:=.fields #[.int lo t,.int hi u,.int 1 v] }
 | .frz o u=>h.get? a=some o/\ObjOk H h a u
 | .tbl ps=>h.get? a=some { cls:=.none,data:=.fields ps }
 | .met f x=>h.get? a=some (PySem.W.methodObj (.ref f) (.ref x))
 | .ext φ=>φ h/\(∃ o,h.get? a=some o)/\∀ h1 h2:Heap,φ h1->(∀ o,h1.get? a=some o->h2.get? a=some o)->φ h2
noncomputable def HOk (H:Hp) (h:Heap):Prop:=∀ a o,H a=some o->ObjOk P w H h a o
end
section
variable {P:Program} {w:World} {H H':Hp} {h h':Heap} {a:Addr} {o:HO}
theorem ObjOk.lt (x:ObjOk P w H h a o):a<h.objs.size:=by
 cases o with
 | lst xs=>obtain ⟨_,_,_,_,e⟩:=x;exact eL e
 | tup xs=>obtain ⟨_,_,_,p⟩:=x;exact p.lt
 | dK kvs=>obtain ⟨_,_,_,_,o,_,_,e,_⟩:=x;exact eL e
 | dT kvs=>obtain ⟨_,_,_,_,o,_,_,e,_⟩:=x;exact eL e
 | set S n=>obtain ⟨o,_,_,_,e,_⟩:=x;exact eL e
 | ins C dx fs=>obtain ⟨_,_,_,e,_⟩:=x;exact eL e
 | own y=>obtain ⟨_,e⟩:=x;exact eL e
 | xd fs=>obtain ⟨_,⟨_,_,_,e,_⟩,_⟩:=x;exact eL e
 | rng lo hi=>obtain ⟨_,_,_,e⟩:=x;exact eL e
 | frz ob u=>obtain ⟨e,_⟩:=x;exact eL e
 | tbl ps=>exact eL (show h.get? a=some _ from x)
 | met f y=>exact eL (show h.get? a=some _ from x)
 | ext φ=>obtain ⟨_,⟨_,e⟩,_⟩:=x;exact eL e
theorem Paired.mapP {α β:Type} {F G:α->β->Prop}:∀ {l₁:List α} {l₂:List β},Paired F l₁ l₂->(∀ a b,F a b->G a b)->Paired G l₁ l₂
 | _,_,.nil,_=>.nil
 | _,_,.cons r t,f=>.cons (f _ _ r) (Paired.mapP t f)
theorem ObjOk.stay (x:ObjOk P w H h a o) (k:∀ b u,(b=a∨H b=some (.own a))->h.get? b=some u->h'.get? b=some u)
  (ho:∀ b,H b=some (.own a)->H' b=some (.own a)) (ht:∀ b xs,H b=some (.tup xs)->H' b=some (.tup xs)):ObjOk P w H' h' a o:=by
 induction o with
 | lst xs=>obtain ⟨z,its,n,r,e⟩:=x;exact ⟨z,its,n,r,k _ _ (.inl rfl) e⟩
 | tup xs=>obtain ⟨z,its,r,ob,e,c⟩:=x;exact ⟨z,its,r,ob,k _ _ (.inl rfl) e,c⟩
 | dK kvs=>obtain ⟨z,y,vs,r,ob,es,ep,e,c⟩:=x;exact ⟨z,y,vs,r,ob,es,ep,k _ _ (.inl rfl) e,c⟩
 | dT kvs=>
  obtain ⟨z,y,xs,r,ob,es,ep,e,c⟩:=x;exact ⟨z,y,xs,Paired.mapP r λ p q z=>⟨z.1,ht _ _ z.2.1,z.2.2⟩,ob,es,ep,k _ _ (.inl rfl) e,c⟩
 | set S n=>obtain ⟨ob,es,ep,t,e,c⟩:=x;exact ⟨ob,es,ep,t,k _ _ (.inl rfl) e,c⟩
 | ins C dx fs=>
  obtain ⟨d,z,ne,e,mA,⟨od,es,ep,e2,c⟩,r⟩:=x;exact ⟨ho _ d,z,ne,k _ _ (.inl rfl) e,mA,⟨od,es,ep,k _ _ (.inr d) e2,c⟩,r⟩
 | own y=>obtain ⟨ob,e⟩:=x;exact ⟨ob,k _ _ (.inl rfl) e⟩
 | xd fs=>obtain ⟨mA,⟨od,es,ep,e,c⟩,r⟩:=x;exact ⟨mA,⟨od,es,ep,k _ _ (.inl rfl) e,c⟩,r⟩
 | rng lo hi=>obtain ⟨t,u,v,e⟩:=x;exact ⟨t,u,v,k _ _ (.inl rfl) e⟩
 | frz ob u ih=>obtain ⟨e,q⟩:=x;exact ⟨k _ _ (.inl rfl) e,ih q⟩
 | tbl ps=>
  have e:h.get? a=some { cls:=.none,data:=.fields ps }:=x;show h'.get? a=some { cls:=.none,data:=.fields ps };exact k a _ (.inl rfl) e
 | met f y=>
  have e:h.get? a=some (PySem.W.methodObj (.ref f) (.ref y)):=x;show h'.get? a=some (PySem.W.methodObj (.ref f) (.ref y));exact k a _ (.inl rfl) e
 | ext φ=>obtain ⟨p,⟨o,e⟩,st⟩:=x;exact ⟨st _ _ p λ o q=>k _ _ (.inl rfl) q,⟨o,k _ _ (.inl rfl) e⟩,st⟩
theorem HOk.lt (x:HOk P w H h) (e:H a=some o):a<h.objs.size:=(x a o e).lt
theorem HOk.fresh (x:HOk P w H h) (e:h.objs.size<=a):H a=none:=by
 cases q:H a with
 | none=>rfl
 | some u=>exact absurd (eP (x.lt q) e) (fw _)
theorem HOk.kept (x:HOk P w H h) (k:∀ b u,h.get? b=some u->h'.get? b=some u):HOk P w H h':=λ a o e=>
 (x a o e).stay (λ b u _ q=>k b u q) (λ _ q=>q) λ _ _ q=>q
theorem HOk.laid (x:HOk P w H h) (k:∀ b u,h.get? b=some u->h'.get? b=some u) (hp:h.objs.size<=a) (new:ObjOk P w (upd H a o) h' a o):HOk P w (upd H a o) h':=λ b u e=>by
 have hn:=x.fresh hp;by_cases hb:b=a
 ·subst hb;rw [ac] at e;cases e;exact new
 ·rw [ag hb] at e;exact (x b u e).stay (λ c v _ q=>k c v q) (λ c q=>by rw [ag (ay q hn)];exact q) λ c xs q=>by rw [ag (ay q hn)];exact q
end
noncomputable def Rd (H:Hp) (a:Addr) (u:HO):Prop:=H a=some u∨∃ o,H a=some (.frz o u)
theorem Rd.ok {P:Program} {w:World} {H:Hp} {h:Heap} {a:Addr} {u:HO} (r:Rd H a u) (x:HOk P w H h):ObjOk P w H h a u:=by
 rcases r with r | ⟨o,r⟩
 ·exact x a u r
 ·obtain ⟨_,q⟩:=x a _ r;exact q
noncomputable def Mut:Option HO->Prop
 | some (.lst _)=>True
 | some (.dK _)=>True
 | some (.dT _)=>True
 | some (.set _ _)=>True
 | some (.ins _ _ _)=>True
 | some (.ext _)=>True
 | _=>False
section
variable {P:Program} {w:World} {H:Hp} {h h':Heap} {x e:Addr} {o':HO}
theorem HOk.write (ok:HOk P w H h) (mu:Mut (H x)) (he:e=x∨H e=some (.own x)) (k:∀ b u,b≠e->h.get? b=some u->h'.get? b=some u) (heo:∃ u,h'.get? e=some u)
  (new:ObjOk P w (upd H x o') h' x o'):HOk P w (upd H x o') h':=λ b u q=>by
 have nown:∀ c y,H c=some (.own y)->c≠x:=λ c y r z=>by subst z;rw [r] at mu;exact mu
 have ntup:∀ c xs,H c=some (.tup xs)->c≠x:=λ c xs r z=>by subst z;rw [r] at mu;exact mu
 by_cases hb:b=x
 ·subst hb;rw [ac] at q;cases q;exact new
 ·rw [ag hb] at q;by_cases hbe:b=e
  ·have q':H b=some (.own x):=by
    rcases he with z | z
    ·exact absurd (hbe.trans z) hb
    ·rw [hbe];exact z
   rw [q] at q';cases q';obtain ⟨v,hv⟩:=heo;exact ⟨v,by rw [hbe];exact hv⟩
  ·refine (ok b u q).stay (λ c v hc r=>k c v ?_ r) (λ c r=>by rw [ag (nown c b r)];exact r) λ c xs r=>by rw [ag (ntup c xs r)];exact r
   rcases hc with rfl | hc
   ·exact hbe
   ·rintro rfl;rcases he with z | z
    ·exact nown c b hc z
    ·rw [hc] at z;cases z;exact hb rfl
end
structure Un (fs ex:List Addr) (H H':Hp) (h h':Heap):Prop where
 keep:∀ b o,h.get? b=some o->H b=none->b ∉ fs->b ∉ ex->h'.get? b=some o
 slot:∀ b o,h.get? b=some o->H b=none->b∈fs->b ∉ ex->∃ sl,h'.get? b=some { o with slots:=sl }
 free:∀ b o,h.get? b=some o->H b=none->b ∉ ex->H' b=none
 there:∀ b o,h.get? b=some o->b ∉ ex->∃ o',h'.get? b=some o'
 tups:∀ b xs,H b=some (.tup xs)->H' b=some (.tup xs)
 frzs:∀ b o u,H b=some (.frz o u)->H' b=some (.frz o u)
 tbls:∀ b ps,H b=some (.tbl ps)->∃ more,H' b=some (.tbl (ps++more))
section
variable {fs fs' ex ex':List Addr} {H H1 H2:Hp} {h h1 h2 h':Heap} {a x e:Addr} {o:HO}
theorem Un.any (u:Un fs ex H H1 h h1) {b:Addr} {ob:Obj} (q:h.get? b=some ob) (n:H b=none) (hx:b ∉ ex):∃ sl,h1.get? b=some { ob with slots:=sl }:=by
 by_cases hb:b∈fs
 ·exact u.slot b ob q n hb hx
 ·exact ⟨ob.slots,u.keep b ob q n hb hx⟩
theorem Un.kept (k:∀ b u,h.get? b=some u->h'.get? b=some u):Un fs ex H H h h':=
 ⟨λ b ob q _ _ _=>k b ob q,λ b ob q _ _ _=>⟨ob.slots,k b ob q⟩,λ _ _ _ n _=>n,λ b ob q _=>⟨ob,k b ob q⟩,λ _ _ q=>q,λ _ _ _ q=>q,λ _ ps q=>⟨#[],by rw [q];simp⟩⟩
theorem Un.refl:Un fs ex H H h h:=Un.kept λ _ _ q=>q
theorem Un.laid (k:∀ b u,h.get? b=some u->h'.get? b=some u) (hp:h.objs.size<=a) (hn:H a=none):Un fs ex H (upd H a o) h h' where
 keep:=λ b u q _ _ _=>k b u q
 slot:=λ b u q _ _ _=>⟨u.slots,k b u q⟩
 free:=λ b u q n _=>by rw [ag (fg (eP (eL q) hp))];exact n
 there:=λ b u q _=>⟨u,k b u q⟩
 tups:=λ b xs q=>by rw [ag (ay q hn)];exact q
 frzs:=λ b u xs q=>by rw [ag (ay q hn)];exact q
 tbls:=λ b ps q=>⟨#[],by rw [ag (ay q hn),q];simp⟩
theorem Un.write (mu:Mut (H x)) (he:e=x∨H e=some (.own x)) (k:∀ b u,b≠e->h.get? b=some u->h'.get? b=some u) (heo:∃ u,h'.get? e=some u):Un fs ex H (upd H x o) h h':=by
 have hx:∀ b,H b=none->b≠x:=λ b n z=>by subst z;rw [n] at mu;exact mu
 have hb:∀ b,H b=none->b≠e:=λ b n z=>by
  subst z;rcases he with r | r
  ·exact hx b n r
  ·rw [n] at r;cases r
 have hm:∀ b u,H b=some u->¬ Mut (some u)->b≠x:=λ b u q nm z=>by subst z;rw [q] at mu;exact nm mu
 refine ⟨λ b u q n _ _=>k b u (hb b n) q,λ b u q n _ _=>⟨u.slots,k b u (hb b n) q⟩,λ b u q n _=>by rw [ag (hx b n)];exact n,λ b u q _=>?_,
  λ b xs q=>by rw [ag (hm b _ q λ z=>z)];exact q,λ b u xs q=>by rw [ag (hm b _ q λ z=>z)];exact q,λ b ps q=>⟨#[],by rw [ag (hm b _ q λ z=>z),q];simp⟩⟩
 by_cases hbe:b=e
 ·subst hbe;exact heo
 ·exact ⟨u,k b u hbe q⟩
end
noncomputable def trk (h:Heap) (H:Hp):List Addr:=(List.range h.objs.size).filter λ a=>(H a).isSome
noncomputable def hidT (h:Heap) (H:Hp):Heap:=PySem.W.hideAll h (trk h H)
theorem hidT_size (h:Heap) (H:Hp):(hidT h H).objs.size=h.objs.size:=PySem.W.hideAll_size _ _
theorem hidT_get {h:Heap} {H:Hp} {b:Addr} {o:Obj} (e:h.get? b=some o) (n:H b=none):(hidT h H).get? b=some o:=
 PySem.W.hideAll_get _ e λ hm=>by
  have q:(H b).isSome=true:=(List.mem_filter.mp hm).2;rw [n] at q;simp at q
theorem of_hidT {h:Heap} {H:Hp} {b:Addr} {o:Obj} (e:(hidT h H).get? b=some o):h.get? b=some o/\H b=none:=by
 have e':h.get? b=some o:=PySem.W.of_hideAll (trk h H) e;refine ⟨e',?_⟩
 cases q:H b with
 | none=>rfl
 | some x=>
  have hm:b∈trk h H:=List.mem_filter.mpr ⟨List.mem_range.mpr (eL e'),by simp [q]⟩;have z:(hidT h H).get? b=none:=PySem.W.hideAll_none (trk h H) hm;rw [z] at e;cases e
noncomputable def allNews (g h:Heap) (L:Addr):List (Addr × Obj):=(List.range h.objs.size).filterMap λ a=>if a=L∨(g.get? a).isSome=true then none else (h.get? a).map λ o=>(a,o)
noncomputable def rest (g h:Heap) (L d:Addr):List (Addr × Obj):=(allNews g h L).filter λ p=>decide (p.1≠d)
end L2
namespace L2
open PySem PySem.Spec PyProof.Rows
structure Mod (K:W.Frag) (mg:Str->Option Value) (base:Heap):Prop where
 kin:K.In base
 glob:base.Ns mainGlobals mg
 blt:∃ mb,base.Ns builtinsNs mb/\∀ x:Str,x≠"__name__"->mb x=bootBuiltins x
 nolimit:base.NoLimit
structure Cx where
 prog:Program
 w:World
 K:W.Frag
 mg:Str->Option Value
 base:Heap
 A:Around
 N:List Str
 s₀:Shared
 H₀:Hp
 env:Env
 outer:List Env
 stack:List Env
 ex:List Addr
 fn:Str->Bool
 calm:Bool
 pn:List (Addr × Obj)
 xe:Value->Shared->Prop
noncomputable def frs (l:List Env):List Addr:=l.filterMap (·.frame)
noncomputable abbrev Cx.fs (X:Cx):List Addr:=frs X.outer
noncomputable def Vis (sc:Scope) (x:Str):Prop:=sc.names.lookup x=some .local∨sc.names.lookup x=some .cell∨sc.names.lookup x=some .free
noncomputable def Loc (sc:Scope) (x:Str):Prop:=sc.names.lookup x=some .local∨sc.names.lookup x=some .cell
noncomputable def Look (env:Env) (h:Heap) (m:Str->Option Value) (x:Str) (u:Value):Prop:=
 (env.kindOf x=some .local/\m x=some u)∨((env.kindOf x=some .cell∨env.kindOf x=some .free)/\∃ c,env.cells.lookup x=some c/\h.IsCell c (some u))
structure Cx.Ok (X:Cx):Prop where
 mod:Mod X.K X.mg X.base
 kind:X.env.scope.kind=.function
 glob:X.env.globals=mainGlobals
 blt:X.env.builtins=builtinsNs
 above:X.s₀.heap.objs.size<=X.env.locals
 inj:∀ x y c,X.env.cells.lookup x=some c->X.env.cells.lookup y=some c->x=y
 has:∀ x,(X.env.kindOf x=some .cell∨X.env.kindOf x=some .free)->∃ c,X.env.cells.lookup x=some c
 cab:∀ x c,X.fn x=true->X.env.cells.lookup x=some c->X.s₀.heap.objs.size<=c
 hd:X.calm=true->X.A.handled=none
 frames:X.A.frames=some X.stack
 stk:X.stack=X.outer∨(X.stack=X.env::X.outer/\X.env.frame=some X.env.locals)
 exf:∀ b∈X.ex,b≠X.env.locals/\∀ x c,X.env.cells.lookup x=some c->c≠b
 bs:∀ b o,X.base.get? b=some o->X.s₀.heap.get? b=some o/\X.H₀ b=none
 bsz:X.base.objs.size<=X.s₀.heap.objs.size
 noex:∀ b o,X.base.get? b=some o->b ∉ X.ex
 exfs:∀ b∈X.ex,b ∉ X.fs
 funs:X.s₀.heap.FunFrames X.base X.outer
 frf:∀ b∈X.fs,X.H₀ b=none
structure Inv (X:Cx) (pins:List (Addr × Obj)) (σ:List (Option V)) (H:Hp) (s:Shared):Prop where
 ok:X.Ok
 os:s.os=X.s₀.os
 bare:AllBare s.gens
 base:Un X.fs X.ex X.H₀ H X.s₀.heap s.heap
 loc:∃ m,s.heap.Ns X.env.locals m/\∀ (i:Nat) (x:Str) (v:V),X.N[i]?=some x->σ[i]?=some (some v)->Vis X.env.scope x->∃ u,RelV v u/\Look X.env s.heap m x u
 cell:∀ x c,X.env.cells.lookup x=some c->∃ v,s.heap.IsCell c v
 free:H X.env.locals=none
 freeC:∀ x c,X.env.cells.lookup x=some c->H c=none
 pin:∀ p∈X.pn++pins,s.heap.get? p.1=some p.2/\H p.1=none/\p.1≠X.env.locals/\p.1 ∉ X.fs/\∀ v,p.2.data≠.cell v
 hok:HOk X.prog X.w H s.heap
 len:σ.length=X.N.length
section
variable {X:Cx} {pins:List (Addr × Obj)} {σ:List (Option V)} {H H':Hp} {s:Shared} {h':Heap}
theorem Cx.Ok.nofr (ok:X.Ok) {b:Addr} {o:Obj} (e:X.base.get? b=some o):b ∉ X.fs:=λ hb=>by
 have:=(ok.funs.mem hb).1
 rw [e] at this;cases this
theorem Inv.bs (I:Inv X pins σ H s):∀ b o,X.base.get? b=some o->s.heap.get? b=some o/\H b=none:=λ b o e=>
 ⟨I.base.keep b o (I.ok.bs b o e).1 (I.ok.bs b o e).2 (I.ok.nofr e) (I.ok.noex b o e),I.base.free b o (I.ok.bs b o e).1 (I.ok.bs b o e).2 (I.ok.noex b o e)⟩
theorem Inv.bk (I:Inv X pins σ H s):∀ b o,X.base.get? b=some o->s.heap.get? b=some o:=λ b o e=>(I.bs b o e).1
theorem Inv.mod (I:Inv X pins σ H s):Mod X.K X.mg X.base:=I.ok.mod
theorem Inv.kIn (I:Inv X pins σ H s):X.K.In s.heap:=I.ok.mod.kin.keeps I.bk
theorem Inv.lt (I:Inv X pins σ H s):X.env.locals<s.heap.objs.size:=by
 obtain ⟨_,hn,_⟩:=I.loc
 exact hn.lt
theorem Inv.sz (I:Inv X pins σ H s):X.s₀.heap.objs.size<=s.heap.objs.size:=eQ I.ok.above (Nat.le_of_lt I.lt)
theorem Inv.nofs (I:Inv X pins σ H s) {a:Addr} (h:s.heap.objs.size<=a):a ∉ X.fs:=λ hb=>by
 obtain ⟨_,o,ho,_⟩:=I.ok.funs.mem hb;exact absurd (eP (eL ho) (eQ I.sz h)) (fw _)
theorem Inv.cne (I:Inv X pins σ H s):∀ x c,X.env.cells.lookup x=some c->c≠X.env.locals:=λ x c e z=>by
 obtain ⟨v,o,ho,hd⟩:=I.cell x c e;obtain ⟨m,⟨o',es,ep,ho',hd',_⟩,_⟩:=I.loc;rw [z,ho'] at ho;cases ho;rw [hd'] at hd;cases hd
theorem Inv.funs (I:Inv X pins σ H s):s.heap.FunFrames X.base X.outer:=by
 have all:∀ (l:List Env),(∀ b∈frs l,b∈X.fs)->X.s₀.heap.FunFrames X.base l->s.heap.FunFrames X.base l:=by
  intro l
  induction l with
  | nil=>intro _ _;trivial
  | cons env r ih=>
   intro hs hl;obtain ⟨hk,⟨L,o,hf,hn,ho,hd⟩,hr⟩:=hl;have hL:L∈X.fs:=hs L (by unfold frs;rw [List.filterMap_cons,hf];exact eY);obtain ⟨sl,e⟩:=I.base.slot L o ho (I.ok.frf L hL) hL λ z=>I.ok.exfs L z hL;exact ⟨hk,⟨L,_,hf,hn,e,hd⟩,ih (λ b hb=>hs b (by unfold frs;rw [List.filterMap_cons,hf];exact eW _ hb)) hr⟩
 exact all X.outer (λ _ hb=>hb) I.ok.funs
theorem Inv.stack (I:Inv X pins σ H s):s.heap.FunFrames X.base X.stack:=by
 rcases I.ok.stk with e | ⟨e,hf⟩
 ·rw [e];exact I.funs
 ·rw [e];obtain ⟨m,hn,_⟩:=I.loc;refine .cons (by rw [I.ok.kind];decide) hf hn ?_ I.funs;exact Heap.get?_none_of_le (eQ I.ok.bsz I.ok.above)
theorem Inv.stkSub (I:Inv X pins σ H s):∀ b∈frs X.stack,b∈X.env.locals::X.fs:=λ b hb=>by
 rcases I.ok.stk with e | ⟨e,hf⟩
 ·rw [e] at hb;exact eW _ hb
 ·rw [e] at hb;unfold frs at hb;rw [List.filterMap_cons,hf] at hb;exact hb
theorem Inv.stkFree (I:Inv X pins σ H s):∀ b∈frs X.stack,H b=none:=λ b hb=>by
 rcases eT.mp (I.stkSub b hb) with e | hb
 ·rw [e];exact I.free
 ·obtain ⟨_,o,ho,_⟩:=I.ok.funs.mem hb;exact I.base.free b o ho (I.ok.frf b hb) λ z=>I.ok.exfs b z hb
theorem Inv.step {g':Array GenState} {t':Nat} {d':Drawn} {ch:List Addr} (I:Inv X pins σ H s)
  (hch:∀ b∈ch,(b∈X.ex∨X.s₀.heap.objs.size<=b)/\b≠X.env.locals/\(∀ x c,X.env.cells.lookup x=some c->c≠b)/\∀ p∈X.pn++pins,p.1≠b)
  (keep:∀ b o,b≠X.env.locals->b ∉ X.fs->b ∉ ch->s.heap.get? b=some o->H b=none->h'.get? b=some o)
  (slot:∀ b o,b≠X.env.locals->b∈X.fs->b ∉ ch->s.heap.get? b=some o->H b=none->∃ sl,h'.get? b=some { o with slots:=sl }) (free:∀ b o,b ∉ ch->s.heap.get? b=some o->H b=none->H' b=none)
  (there:∀ b o,b ∉ ch->s.heap.get? b=some o->∃ o',h'.get? b=some o')
  (tups:∀ b xs,H b=some (.tup xs)->H' b=some (.tup xs)) (frzs:∀ b o u,H b=some (.frz o u)->H' b=some (.frz o u)) (tbls:∀ b ps,H b=some (.tbl ps)->∃ more,H' b=some (.tbl (ps++more)))
  (ns:∀ m,s.heap.Ns X.env.locals m->h'.Ns X.env.locals m) (hok:HOk X.prog X.w H' h') (hg:AllBare g') :
  Inv X pins σ H' { s with heap:=h',gens:=g',drawn:=d',toks:=t' }:=by
 have neL:∀ b o,X.s₀.heap.get? b=some o->b≠X.env.locals:=λ b o e=>fg (eP (eL e) I.ok.above)
 have neC:∀ b o,X.s₀.heap.get? b=some o->b ∉ X.ex->b ∉ ch:=λ b o e hx hb=>by
  rcases (hch b hb).1 with z | z
  ·exact hx z
  ·exact absurd (eP (eL e) z) (fw _)
 have cellK:∀ x c,X.env.cells.lookup x=some c->∀ v,s.heap.IsCell c v->h'.IsCell c v:=λ x c e v ⟨o,ho,hd⟩=>by
  have nch:c ∉ ch:=λ z=>(hch c z).2.2.1 x c e rfl;by_cases hc:c∈X.fs
  ·obtain ⟨sl,q⟩:=slot c o (I.cne x c e) hc nch ho (I.freeC x c e);exact ⟨_,q,hd⟩
  ·exact ⟨o,keep c o (I.cne x c e) hc nch ho (I.freeC x c e),hd⟩
 refine ⟨I.ok,I.os,hg,⟨λ b o e n hb hx=>?_,λ b o e n hb hx=>?_,λ b o e n hx=>?_,λ b o e hx=>?_,λ b xs e=>tups b xs (I.base.tups b xs e),λ b o xs e=>frzs b o xs (I.base.frzs b o xs e),λ b ps e=>?_⟩,?_,λ x c e=>?_,?_,λ x c e=>?_,λ p hp=>?_,hok,I.len⟩
 ·exact keep b o (neL b o e) hb (neC b o e hx) (I.base.keep b o e n hb hx) (I.base.free b o e n hx)
 ·obtain ⟨sl,e1⟩:=I.base.slot b o e n hb hx;obtain ⟨sl',e2⟩:=slot b _ (neL b o e) hb (neC b o e hx) e1 (I.base.free b o e n hx);exact ⟨sl',e2⟩
 ·obtain ⟨o',e1⟩:=I.base.there b o e hx;exact free b o' (neC b o e hx) e1 (I.base.free b o e n hx)
 ·obtain ⟨o',e1⟩:=I.base.there b o e hx;exact there b o' (neC b o e hx) e1
 ·obtain ⟨m1,e1⟩:=I.base.tbls b ps e;obtain ⟨m2,e2⟩:=tbls b _ e1;exact ⟨m1++m2,by rw [e2,Array.append_assoc]⟩
 ·obtain ⟨m,hn,hl⟩:=I.loc;refine ⟨m,ns m hn,λ i x v e1 e2 e3=>?_⟩;obtain ⟨u,r,l⟩:=hl i x v e1 e2 e3;refine ⟨u,r,?_⟩;rcases l with l | ⟨k,c,e,z⟩
  ·exact .inl l
  ·exact .inr ⟨k,c,e,cellK x c e _ z⟩
 ·obtain ⟨v,z⟩:=I.cell x c e;exact ⟨v,cellK x c e v z⟩
 ·obtain ⟨m,⟨o,_,_,ho,_⟩,_⟩:=I.loc;exact free _ o (λ z=>(hch _ z).2.1 rfl) ho I.free
 ·obtain ⟨v,o,ho,hd⟩:=I.cell x c e;exact free c o (λ z=>(hch c z).2.2.1 x c e rfl) ho (I.freeC x c e)
 ·obtain ⟨e,n,ne,nf,d⟩:=I.pin p hp;have nch:p.1 ∉ ch:=λ z=>(hch p.1 z).2.2.2 p hp rfl;exact ⟨keep p.1 p.2 ne nf nch e n,free p.1 p.2 nch e n,ne,nf,d⟩
theorem Inv.un {t':Nat} (I:Inv X pins σ H s) (u:Un X.fs [] H H' s.heap h') (hok:HOk X.prog X.w H' h'):Inv X pins σ H' { s with heap:=h',toks:=t' }:=by
 obtain ⟨m,⟨o,es,ep,ho,r⟩,_⟩:=id I.loc;obtain ⟨sl,hL⟩:=u.any ho I.free (by simp)
 exact I.step (g':=s.gens) (d':=s.drawn) (ch:=[]) (λ _ z=>nomatch z) (λ b o _ hb _ e n=>u.keep b o e n hb (by simp)) (λ b o _ hb _ e n=>u.slot b o e n hb (by simp)) (λ b o _ e n=>u.free b o e n (by simp)) (λ b o _ e=>u.there b o e (by simp)) u.tups u.frzs u.tbls (λ m' hm=>by
  obtain ⟨o',es',ep',ho',r'⟩:=hm;rw [ho] at ho';cases ho';exact ⟨_,es',ep',hL,r'⟩) hok I.bare
theorem Inv.call {g':Array GenState} {t':Nat} {d':Drawn} {ch:List Addr} (I:Inv X pins σ H s) (u:Un (frs X.stack) ch H H' s.heap h') (hok:HOk X.prog X.w H' h') (hg:AllBare g')
  (hch:∀ b∈ch,(b∈X.ex∨X.s₀.heap.objs.size<=b)/\b≠X.env.locals/\(∀ x c,X.env.cells.lookup x=some c->c≠b)/\∀ p∈X.pn++pins,p.1≠b) :
  Inv X pins σ H' { s with heap:=h',gens:=g',drawn:=d',toks:=t' }:=by
 obtain ⟨m,⟨o,es,ep,ho,r⟩,_⟩:=id I.loc;obtain ⟨sl,hL⟩:=u.any ho I.free λ z=>(hch _ z).2.1 rfl
 exact I.step (ch:=ch) hch (λ b o hL hb hc e n=>u.keep b o e n (λ z=>(eT.mp (I.stkSub b z)).elim hL hb) hc) (λ b o _ _ hc e n=>u.any e n hc) (λ b o hc e n=>u.free b o e n hc) (λ b o hc e=>u.there b o e hc) u.tups u.frzs u.tbls (λ m' hm=>by
  obtain ⟨o',es',ep',ho',r'⟩:=hm;rw [ho] at ho';cases ho';exact ⟨_,es',ep',hL,r'⟩) hok hg
theorem Inv.turned {t':Nat} {it:Addr} (I:Inv X pins σ H s) (k:∀ b o,b≠it->s.heap.get? b=some o->h'.get? b=some o) (hn:H it=none) (hL:it≠X.env.locals)
  (h1:it∈X.ex∨X.s₀.heap.objs.size<=it) (h2:∀ x c,X.env.cells.lookup x=some c->c≠it) (h3:∀ p∈X.pn++pins,p.1≠it):Inv X pins σ H { s with heap:=h',toks:=t' }:=by
 have nit:∀ b u,H b=some u->b≠it:=λ b u e z=>by rw [z,hn] at e;cases e
 refine I.step (g':=s.gens) (d':=s.drawn) (ch:=[it]) (λ b hb=>?_) (λ b o _ _ hc e _=>k b o (λ z=>hc (by simp [z])) e) (λ b o _ _ hc e _=>⟨o.slots,k b o (λ z=>hc (by simp [z])) e⟩) (λ _ _ _ _ n=>n)
  (λ b o hc e=>⟨o,k b o (λ z=>hc (by simp [z])) e⟩) (λ _ _ e=>e) (λ _ _ _ e=>e) (λ b ps e=>⟨#[],by rw [e];simp⟩) (λ m hm=>?_) (λ b u e=>?_) I.bare
 ·have e:b=it:=by simpa using hb
  subst e;exact ⟨h1,hL,h2,h3⟩
 ·obtain ⟨o,es,ep,ho,r⟩:=hm;exact ⟨o,es,ep,k _ o (Ne.symm hL) ho,r⟩
 ·refine (I.hok b u e).stay (λ c v hc q=>k c v ?_ q) (λ _ q=>q) λ _ _ q=>q;rcases hc with z | z
  ·rw [z];exact nit b u e
  ·exact nit c _ z
theorem Inv.tok (I:Inv X pins σ H s) (t:Nat):Inv X pins σ H { s with toks:=t }:=I.un (h':=s.heap) (t':=t) Un.refl I.hok
theorem Inv.kept {t':Nat} (I:Inv X pins σ H s) (k:∀ b u,s.heap.get? b=some u->h'.get? b=some u):Inv X pins σ H { s with heap:=h',toks:=t' }:=I.un (Un.kept k) (I.hok.kept k)
theorem Inv.laid {a:Addr} {o:HO} {t':Nat} (I:Inv X pins σ H s) (k:∀ b u,s.heap.get? b=some u->h'.get? b=some u) (hp:s.heap.objs.size<=a) (new:ObjOk X.prog X.w (upd H a o) h' a o) :
  Inv X pins σ (upd H a o) { s with heap:=h',toks:=t' }:=I.un (Un.laid k hp (I.hok.fresh hp)) (I.hok.laid k hp new)
theorem Inv.write {x e:Addr} {o:HO} {t':Nat} (I:Inv X pins σ H s) (mu:Mut (H x)) (he:e=x∨H e=some (.own x)) (k:∀ b u,b≠e->s.heap.get? b=some u->h'.get? b=some u) (heo:∃ u,h'.get? e=some u)
  (new:ObjOk X.prog X.w (upd H x o) h' x o):Inv X pins σ (upd H x o) { s with heap:=h',toks:=t' }:=I.un (Un.write mu he k heo) (I.hok.write mu he k heo new)
theorem Inv.pins_of {pins':List (Addr × Obj)} (I:Inv X pins σ H s) (h:∀ p∈pins',s.heap.get? p.1=some p.2/\H p.1=none/\p.1≠X.env.locals/\p.1 ∉ X.fs/\∀ v,p.2.data≠.cell v):Inv X pins' σ H s:=
 ⟨I.ok,I.os,I.bare,I.base,I.loc,I.cell,I.free,I.freeC,λ p hp=>(List.mem_append.mp hp).elim (λ z=>I.pin p (List.mem_append_left _ z)) (h p),I.hok,I.len⟩
theorem nodup_ix {N:List Str} (hN:N.Nodup) {i j:Nat} {x:Str} (a:N[i]?=some x) (b:N[j]?=some x):i=j:=by
 obtain ⟨h1,e1⟩:=eG.mp a;obtain ⟨h2,e2⟩:=eG.mp b;exact (List.getElem_inj hN).mp (e1.trans e2.symm)
theorem store_ok2 {M:Model} {A:Around} {E:Value->Shared->Prop} {i:Nat} {x:Str} {v:V} {u:Value} {Q:Unit->Shared->Prop} (I:Inv X pins σ H s) (hN:X.N.Nodup) (hi:X.N[i]?=some x) (hx:Loc X.env.scope x) (r:RelV v u)
  (h:∀ s',Inv X pins (σ.set i (some v)) H s'->(∃ a,Heap.SameBut a s.heap s'.heap/\(a=X.env.locals∨X.env.cells.lookup x=some a))->Q () s') (hf:X.fn x=true∨X.env.scope.names.lookup x=some .local:=by first | exact .inl rfl | exact .inr rfl | assumption):wpAny M A (storeName X.env x u) Q E s:=by
 obtain ⟨m,hn,hl⟩:=id I.loc;have hcls:(X.env.scope.kind == .class || (X.env.scope.kind == .module && X.env.locals != X.env.globals))=false:=by rw [I.ok.kind];rfl
 have hiσ:i < σ.length:=by rw [I.len];exact (eG.mp hi).1
 have cne:=I.cne
 have tracked:∀ {a:Addr} {h':Heap},(∃ o,s.heap.get? a=some o/\H a=none)->Heap.SameBut a s.heap h'->HOk X.prog X.w H h':=λ {a h'} ha hs b ob e=>by
  obtain ⟨_,_,hfree⟩:=ha;refine (I.hok b ob e).stay (λ c w' hc q=>(hs.2 c ?_).trans q) (λ _ q=>q) λ _ _ q=>q;rintro rfl;rcases hc with rfl | hc
  ·rw [hfree] at e;cases e
  ·rw [hfree] at hc;cases hc
 rcases hx with hk | hk
 ·refine wpAny_storeName_local hk hn (λ h' hn' hs=>?_) hcls;obtain ⟨oL,_,_,hoL,_⟩:=id hn;refine h _ ⟨I.ok,I.os,I.bare,⟨λ b o e n hb hx=>?_,λ b o e n hb hx=>?_,I.base.free,λ b o e hx=>?_,I.base.tups,I.base.frzs,I.base.tbls⟩,⟨_,hn',λ j y v' e1 e2 e3=>?_⟩,λ y c e=>?_,I.free,I.freeC,λ p hp=>?_,tracked ⟨oL,hoL,I.free⟩ hs,by simpa using I.len⟩ ⟨_,hs,.inl rfl⟩
  ·exact (hs.2 b (fg (eP (eL e) I.ok.above))).trans (I.base.keep b o e n hb hx)
  ·obtain ⟨sl,e1⟩:=I.base.slot b o e n hb hx;exact ⟨sl,(hs.2 b (fg (eP (eL e) I.ok.above))).trans e1⟩
  ·obtain ⟨o',e1⟩:=I.base.there b o e hx;exact ⟨o',(hs.2 b (fg (eP (eL e) I.ok.above))).trans e1⟩
  ·by_cases hj:j=i
   ·subst hj;rw [hi] at e1;cases e1;rw [List.getElem?_set_self hiσ] at e2
    cases e2;exact ⟨u,r,.inl ⟨hk,by simp⟩⟩
   ·rw [List.getElem?_set_ne (Ne.symm hj)] at e2;obtain ⟨u',r',q⟩:=hl j y v' e1 e2 e3;refine ⟨u',r',?_⟩;rcases q with ⟨k,e⟩ | ⟨k,c,e,z⟩
    ·refine .inl ⟨k,?_⟩
     have:y≠x:=λ e=>hj (nodup_ix hN e1 (e ▸ hi))
     simp [this,e]
    ·exact .inr ⟨k,c,e,z.sameBut hs (cne y c e)⟩
  ·obtain ⟨w',z⟩:=I.cell y c e;exact ⟨w',z.sameBut hs (cne y c e)⟩
  ·obtain ⟨e,n,ne,nf,d⟩:=I.pin p hp;exact ⟨(hs.2 p.1 ne).trans e,n,ne,nf,d⟩
 ·have hfn:X.fn x=true:=by
   rcases hf with z | z
   ·exact z
   ·rw [z] at hk;cases hk
  obtain ⟨c,hc⟩:=I.ok.has x (.inl hk);obtain ⟨w',z⟩:=I.cell x c hc;refine wpAny_storeName_cell I.ok.kind hk hc z (λ h' hc' hs=>?_);obtain ⟨oc,hoc,hocd⟩:=id z;refine h { s with heap:=h' } ⟨I.ok,I.os,I.bare,⟨λ b o e n hb hx=>?_,λ b o e n hb hx=>?_,I.base.free,λ b o e hx=>?_,I.base.tups,I.base.frzs,I.base.tbls⟩,⟨m,hn.sameBut hs (Ne.symm (cne x c hc)),λ j y v' e1 e2 e3=>?_⟩,λ y c' e=>?_,I.free,I.freeC,λ p hp=>?_,tracked ⟨oc,hoc,I.freeC x c hc⟩ hs,by simpa using I.len⟩ ⟨c,hs,.inr hc⟩
  ·exact (hs.2 b (fg (eP (eL e) (I.ok.cab x c hfn hc)))).trans (I.base.keep b o e n hb hx)
  ·obtain ⟨sl,e1⟩:=I.base.slot b o e n hb hx;exact ⟨sl,(hs.2 b (fg (eP (eL e) (I.ok.cab x c hfn hc)))).trans e1⟩
  ·obtain ⟨o',e1⟩:=I.base.there b o e hx;exact ⟨o',(hs.2 b (fg (eP (eL e) (I.ok.cab x c hfn hc)))).trans e1⟩
  ·by_cases hj:j=i
   ·subst hj;rw [hi] at e1;cases e1;rw [List.getElem?_set_self hiσ] at e2
    cases e2;exact ⟨u,r,.inr ⟨.inl hk,c,hc,hc'⟩⟩
   ·rw [List.getElem?_set_ne (Ne.symm hj)] at e2;obtain ⟨u',r',q⟩:=hl j y v' e1 e2 e3;refine ⟨u',r',?_⟩;rcases q with q | ⟨k,c',e,z'⟩
    ·exact .inl q
    ·refine .inr ⟨k,c',e,z'.sameBut hs ?_⟩;rintro rfl;exact hj (nodup_ix hN e1 (I.ok.inj _ _ _ e hc ▸ hi))
  ·by_cases hcc:c'=c
   ·subst hcc;exact ⟨_,hc'⟩
   ·obtain ⟨w2,z2⟩:=I.cell y c' e;exact ⟨w2,z2.sameBut hs hcc⟩
  ·obtain ⟨e,n,ne,nf,d⟩:=I.pin p hp;refine ⟨(hs.2 p.1 ?_).trans e,n,ne,nf,d⟩;intro q;rw [q,hoc] at e;have q':oc=p.2:=eZ e;exact d w' (by rw [<- q'];exact hocd)
theorem dP {M:Model} {A:Around} {E:Value->Shared->Prop} {i:Nat} {x:Str} {v:V} {u:Value} {Q:Unit->Shared->Prop} (I:Inv X pins σ H s) (hN:X.N.Nodup) (hi:X.N[i]?=some x) (hx:Loc X.env.scope x) (r:RelV v u)
  (h:∀ s',Inv X pins (σ.set i (some v)) H s'->Q () s') (hf:X.fn x=true∨X.env.scope.names.lookup x=some .local:=by first | exact .inl rfl | exact .inr rfl | assumption):wpAny M A (storeName X.env x u) Q E s:=
 store_ok2 I hN hi hx r (λ s' I' _=>h s' I') hf
theorem Inv.call' {s':Shared} {ch:List Addr} (I:Inv X pins σ H s) (ho:s'.os=s.os) (u:Un (frs X.stack) ch H H' s.heap s'.heap) (hok:HOk X.prog X.w H' s'.heap) (hg:AllBare s'.gens)
  (hch:∀ b∈ch,(b∈X.ex∨X.s₀.heap.objs.size<=b)/\b≠X.env.locals/\(∀ x c,X.env.cells.lookup x=some c->c≠b)/\∀ p∈X.pn++pins,p.1≠b):Inv X pins σ H' s':=by
 obtain ⟨h',g',d',t',o'⟩:=s';have e:o'=s.os:=ho;subst e;exact I.call (g':=g') (t':=t') (d':=d') u hok hg hch
end
noncomputable abbrev XK:=Value->Option Addr->Hp->Prop
noncomputable abbrev St:=List (Option V)
noncomputable abbrev VK:=V->Hp->Prop
noncomputable abbrev TE:=St->Hp->VK->Prop
noncomputable abbrev TT:=St->Hp->(Bool->Hp->Prop)->Prop
noncomputable abbrev TA:=St->Hp->(List V->Hp->Prop)->Prop
structure Ends where
 nx:St->Hp->Prop
 rt:VK
 bk:St->Hp->Prop:=λ _ _=>False
 ct:St->Hp->Prop:=λ _ _=>False
noncomputable abbrev TS:=Ends->St->Hp->Prop
noncomputable def EP (X:Cx) (pins:List (Addr × Obj)) (σ:St) (Q:VK) (u:Value) (s':Shared):Prop:=∃ v H',Inv X pins σ H' s'/\RelV v u/\Q v H'
noncomputable def TP (X:Cx) (pins:List (Addr × Obj)) (σ:St) (Q:Bool->Hp->Prop) (b:Bool) (s':Shared):Prop:=∃ H',Inv X pins σ H' s'/\Q b H'
noncomputable def AP (X:Cx) (pins:List (Addr × Obj)) (σ:St) (Q:List V->Hp->Prop) (us:List Value) (s':Shared):Prop:=∃ vs H',Inv X pins σ H' s'/\Vals vs us/\Q vs H'
noncomputable def SP (X:Cx) (pins:List (Addr × Obj)) (D:Ends) (f:Flow) (s':Shared):Prop:=
 match f with
 | .next=>∃ σ' H',Inv X pins σ' H' s'/\D.nx σ' H'
 | .brk=>∃ σ' H',Inv X pins σ' H' s'/\D.bk σ' H'
 | .cont=>∃ σ' H',Inv X pins σ' H' s'/\D.ct σ' H'
 | .ret u=>∃ v σ' H',Inv X pins σ' H' s'/\RelV v u/\D.rt v H'
noncomputable def PE (X:Cx) (e:Expr) (t:TE):Prop:=
 ∀ (pins:List (Addr × Obj)) (s:Shared) (σ:St) (H:Hp) (Q:VK),Inv X pins σ H s->t σ H Q->wpAny (model X.prog X.w) X.A (eval e X.env) (EP X pins σ Q) X.xe s
noncomputable def PT (X:Cx) (e:Expr) (t:TT):Prop:=
 ∀ (pins:List (Addr × Obj)) (s:Shared) (σ:St) (H:Hp) (Q:Bool->Hp->Prop),Inv X pins σ H s->t σ H Q->wpAny (model X.prog X.w) X.A (isTrue e X.env (eval e X.env)) (TP X pins σ Q) X.xe s
noncomputable def PW (X:Cx) (e:Expr) (t:TT):Prop:=
 ∀ (whole:Sem Value) (pins:List (Addr × Obj)) (s:Shared) (σ:St) (H:Hp) (Q:Bool->Hp->Prop),Inv X pins σ H s->t σ H Q->wpAny (model X.prog X.w) X.A (isTrue e X.env whole) (TP X pins σ Q) X.xe s
theorem PW.pt {X:Cx} {e:Expr} {t:TT} (h:PW X e t):PT X e t:=h _
noncomputable def PA (X:Cx) (es:List Expr) (t:TA):Prop:=
 ∀ (pos:Pos) (pins:List (Addr × Obj)) (s:Shared) (σ:St) (H:Hp) (Q:List V->Hp->Prop),Inv X pins σ H s->t σ H Q->wpAny (model X.prog X.w) X.A (spliced (backTo pos (starEach es X.env))) (AP X pins σ Q) X.xe s
noncomputable def PS (X:Cx) (st:Stmt) (t:TS):Prop:=
 ∀ (pins:List (Addr × Obj)) (s:Shared) (σ:St) (H:Hp) (D:Ends),Inv X pins σ H s->t D σ H->wpAny (model X.prog X.w) X.A (exec st X.env) (SP X pins D) X.xe s
noncomputable def PSs (X:Cx) (st:List Stmt) (t:TS):Prop:=
 ∀ (pins:List (Addr × Obj)) (s:Shared) (σ:St) (H:Hp) (D:Ends),Inv X pins σ H s->t D σ H->wpAny (model X.prog X.w) X.A (execs st X.env) (SP X pins D) X.xe s
theorem thn {α:Type} {t:Sem α} {Q Q':α->Shared->Prop} {M:Model} {A:Around} {E:Value->Shared->Prop} {s:Shared} (h:wpAny M A t Q E s) (hQ:∀ a s,Q a s->Q' a s):wpAny M A t Q' E s:=fh h hQ λ _ _ x=>x
end L2
namespace L2
open PySem PySem.Spec PyProof.Rows
section
variable {X:Cx}
inductive ItVar (i:Nat) (σ:St) (H:Hp) (Q:VK):Prop
 | mk (v:_) (h1:σ[i]?=some (some v)) (h2:Q v H):ItVar i σ H Q
noncomputable def tVar (i:Nat):TE:=λ σ H Q=>ItVar i σ H Q
noncomputable def tC (v:V):TE:=λ _ H Q=>Q v H
theorem pe_var {i:Nat} {x:Str} {pos:Pos} (hN:X.N[i]?=some x) (hv:Vis X.env.scope x) (hd:(x == ("__debug__":Str))=false:=by decide) (hcd:(x == ("__classdict__":Str))=false:=by decide):PE X (.Name x pos) (tVar i):=by
 intro pins s σ H Q I h;obtain ⟨v,e,h⟩:=h;obtain ⟨m,hn,hl⟩:=I.loc;obtain ⟨u,r,l⟩:=hl i x v hN e hv;have fin:EP X pins σ Q u s:=⟨v,H,I,r,h⟩;rcases l with ⟨hk,hm⟩ | ⟨hk,c,hc,hcell⟩
 ·exact wpAny_Name (wpAny_loadName_local I.ok.kind hk hn hm fin) hd
 ·rcases hk with hk | hk
  ·exact wpAny_Name (wpAny_loadName_cell I.ok.kind hk hc hcell fin) hd
  ·exact wpAny_Name (wpAny_loadName_free I.ok.kind hk hc hcell fin hcd) hd
theorem ai {i j pos}:PE X (.Constant (.int i) j pos) (tC (.int i)):=λ _ _ _ H _ I h=>wpAny_Constant_int ⟨.int i,H,I.tok _,⟨_,rfl⟩,h⟩
theorem pe_bl {b j pos}:PE X (.Constant (.bool b) j pos) (tC (.bl b)):=λ _ _ _ H _ I h=>Constant_bool ⟨.bl b,H,I,rfl,h⟩
theorem bz {j pos}:PE X (.Constant .none j pos) (tC .non):=λ _ _ _ H _ I h=>Constant_none ⟨.non,H,I,rfl,h⟩
theorem au {x j pos}:PE X (.Constant (.str x) j pos) (tC (.str x)):=λ _ _ _ H _ I h=>Calls.Constant_str ⟨.str x,H,I.tok _,⟨_,rfl⟩,h⟩
noncomputable def Gl (X:Cx) (x:Str):Prop:=X.env.kindOf x=some .globalImplicit
theorem bx {E:Value->Shared->Prop} {pins:List (Addr × Obj)} {s:Shared} {σ:St} {H:Hp} {x:Str} {u:Value} {pos:Pos} {Q:Value->Shared->Prop} (I:Inv X pins σ H s) (hg:Gl X x) (hm:X.mg x=some u) (h:Q u s)
  (hd:(x == ("__debug__":Str))=false:=by decide):wpAny (model X.prog X.w) X.A (eval (.Name x pos) X.env) Q E s:=
 Calls.Name_function_global I.ok.kind hg (Calls.loadGlobal_global (by rw [I.ok.glob];exact I.mod.glob.keeps I.bk) hm h) hd
theorem ld_blt {E:Value->Shared->Prop} {pins:List (Addr × Obj)} {s:Shared} {σ:St} {H:Hp} {x:Str} {u:Value} {pos:Pos} {Q:Value->Shared->Prop} (I:Inv X pins σ H s) (hg:Gl X x) (hm:X.mg x=none) (hv:bootBuiltins x=some u) (h:Q u s)
  (hn:x≠"__name__":=by decide) (hd:(x == ("__debug__":Str))=false:=by decide):wpAny (model X.prog X.w) X.A (eval (.Name x pos) X.env) Q E s:=by
 obtain ⟨mb,h1,h2⟩:=I.mod.blt;exact Calls.Name_function_global I.ok.kind hg (Calls.loadGlobal_builtin (by rw [I.ok.glob];exact I.mod.glob.keeps I.bk) hm (by rw [I.ok.blt];exact h1.keeps I.bk) ((h2 x hn).trans hv) h) hd
theorem aY {x:Str} {v:V} {u:Value} {pos:Pos} (hg:Gl X x) (hm:X.mg x=some u) (r:RelV v u) (hd:(x == ("__debug__":Str))=false:=by decide):PE X (.Name x pos) (tC v):=
 λ _ _ _ H _ I h=>bx I hg hm ⟨v,H,I,r,h⟩ hd
theorem d0 {x:Str} {v:V} {u:Value} {pos:Pos} (hg:Gl X x) (hm:X.mg x=none) (hv:bootBuiltins x=some u) (r:RelV v u) (hn:x≠"__name__":=by decide) (hd:(x == ("__debug__":Str))=false:=by decide):PE X (.Name x pos) (tC v):=
 λ _ _ _ H _ I h=>ld_blt I hg hm hv ⟨v,H,I,r,h⟩ hn hd
noncomputable def t2I (ta tb:TE) (k:Int->Int->Hp->Prop):St->Hp->Prop:=λ σ H=>ta σ H λ x H1=>tb σ H1 λ y H2=>∃ i j,x=.int i/\y=.int j/\k i j H2
variable {a b:Expr} {ta tb:TE} {pos:Pos}
noncomputable def PC (X:Cx) (op:CmpOp) (a b:Expr) (t:TE):Prop:=
 ∀ (pins:List (Addr × Obj)) (s:Shared) (σ:St) (H:Hp) (Q:VK),Inv X pins σ H s->t σ H Q->
  wpAny (model X.prog X.w) X.A (eval a X.env) (λ v s₁=>wpAny (model X.prog X.w) X.A (eval b X.env) (λ u s₂=>wpAny (model X.prog X.w) X.A (compareOp op v u) (EP X pins σ Q) X.xe s₂) X.xe s₁) X.xe s
noncomputable def tCmp (p:Int->Int->Bool) (ta tb:TE):TE:=λ σ H Q=>t2I ta tb (λ i j H2=>Q (.bl (p i j)) H2) σ H
inductive ItB (Q:Bool->Hp->Prop) (x:V) (H1:Hp):Prop
 | mk (c:_) (h1:x=.bl c) (h2:Q c H1):ItB Q x H1
noncomputable def tB (t:TE):TT:=λ σ H Q=>t σ H λ x H1=>ItB Q x H1
theorem bH {op:CmpOp} {t:TE} (h:PC X op a b t) (h1:behindInMarks op b=false:=by first | exact nobehind _ (by decide) (by decide) | rfl):PT X (.Compare a [op] [b] pos) (tB t):=by
 intro pins s σ H Q I hw;refine wpAny_isTrue_Compare1 (thn (h pins s σ H _ I hw) λ v s1 h1=>thn h1 λ u s2 h2=>thn h2 λ c s3 ⟨x,H1,I1,r1,q1⟩=>?_) h1;obtain ⟨d,rfl,q⟩:=q1
 cases r1;exact wpAny_truthy_bool ⟨H1,I1,q⟩
theorem bg {e:Expr} {t:TE} (h:PE X e t) (he:∀ whole,isTrue e X.env whole=(do let v <- whole;standAt e.pos;holding [v] (truthy v)):=by intro _;rfl):PT X e (tB t):=by
 intro pins s σ H Q I hw;refine isTrue_plain (thn (h pins s σ H _ I hw) λ v s1 ⟨x,H1,I1,r1,q1⟩=>?_) (he _);obtain ⟨d,rfl,q⟩:=q1
 cases r1;exact wpAny_truthy_bool ⟨H1,I1,q⟩
variable {tA tB':TT} {rest:List Expr}
noncomputable def tAnd (t u:TT):TT:=λ σ H Q=>t σ H λ c H1=>if c=true then u σ H1 Q else Q false H1
noncomputable def tOr (t u:TT):TT:=λ σ H Q=>t σ H λ c H1=>if c=true then Q true H1 else u σ H1 Q
noncomputable def tNot (t:TT):TT:=λ σ H Q=>t σ H λ c H1=>Q (!c) H1
theorem ck (ha:PT X a tA):PW X (.BoolOp .And [a] pos) tA:=by
 intro wh pins s σ H Q I h;refine isTrue_and (thn (ha pins s σ H Q I h) λ c s1 e=>?_)
 cases c with
 | true=>exact isTrue_and_nil e
 | false=>exact e
theorem pw_or1 (ha:PT X a tA):PW X (.BoolOp .Or [a] pos) tA:=by
 intro wh pins s σ H Q I h;refine isTrue_or (thn (ha pins s σ H Q I h) λ c s1 e=>?_)
 cases c with
 | false=>exact isTrue_or_nil e
 | true=>exact e
theorem cn (ha:PT X a tA) (hb:PW X (.BoolOp .And (b::rest) pos) tB'):PW X (.BoolOp .And (a::b::rest) pos) (tAnd tA tB'):=by
 intro wh pins s σ H Q I h;refine isTrue_and (thn (ha pins s σ H _ I h) λ c s1 ⟨H1,I1,q1⟩=>?_)
 cases c with
 | true=>exact hb wh pins s1 σ H1 Q I1 q1
 | false=>exact ⟨H1,I1,q1⟩
theorem pw_or (ha:PT X a tA) (hb:PW X (.BoolOp .Or (b::rest) pos) tB'):PW X (.BoolOp .Or (a::b::rest) pos) (tOr tA tB'):=by
 intro wh pins s σ H Q I h;refine isTrue_or (thn (ha pins s σ H _ I h) λ c s1 ⟨H1,I1,q1⟩=>?_)
 cases c with
 | true=>exact ⟨H1,I1,q1⟩
 | false=>exact hb wh pins s1 σ H1 Q I1 q1
theorem cV (ha:PT X a tA):PT X (.UnaryOp .Not a pos) (tNot tA):=by
 intro pins s σ H Q I h;exact isTrue_not (ha pins s σ H (λ c H1=>Q (!c) H1) I h)
noncomputable def tAndV (ta tb:TE):TE:=λ σ H Q=>ta σ H λ x H1=>∃ c,x=.bl c/\if c=true then tb σ H1 Q else Q (.bl false) H1
noncomputable def tNotV (ta:TE):TE:=λ σ H Q=>ta σ H λ x H1=>∃ c,x=.bl c/\Q (.bl (!c)) H1
theorem pe_one {op} {t:TE} (h:PE X a t):PE X (.BoolOp op [a] pos) t:=λ pins s σ H Q I hw=>BoolOp_one (h pins s σ H Q I hw)
theorem pe_and (ha:PE X a ta) (hb:PE X (.BoolOp .And (b::rest) pos) tb):PE X (.BoolOp .And (a::b::rest) pos) (tAndV ta tb):=by
 intro pins s σ H Q I h;refine BoolOp_and (thn (ha pins s σ H _ I h) λ v s1 ⟨x,H1,I1,r1,q1⟩=>?_);obtain ⟨c,rfl,q1⟩:=q1
 cases r1;refine wpAny_truthy_bool ?_
 cases c with
 | true=>exact hb pins s1 σ H1 Q I1 q1
 | false=>exact ⟨.bl false,H1,I1,rfl,q1⟩
theorem pe_not (ha:PE X a ta):PE X (.UnaryOp .Not a pos) (tNotV ta):=by
 intro pins s σ H Q I h;refine UnaryOp_ (thn (ha pins s σ H _ I h) λ v s1 ⟨x,H1,I1,r1,q1⟩=>?_);obtain ⟨c,rfl,q1⟩:=q1
 cases r1;exact not_of (wpAny_truthy_bool ⟨.bl (!c),H1,I1,rfl,q1⟩)
noncomputable def tIf (t:TT) (ta tb:TE):TE:=λ σ H Q=>t σ H λ c H1=>if c=true then ta σ H1 Q else tb σ H1 Q
theorem dY {c:Expr} (hc:PT X c tA) (ha:PE X a ta) (hb:PE X b tb):PE X (.IfExp c a b pos) (tIf tA ta tb):=by
 intro pins s σ H Q I h;refine wpAny_IfExp (thn (hc pins s σ H _ I h) λ d s1 ⟨H1,I1,q1⟩=>?_)
 cases d with
 | true=>exact ha pins s1 σ H1 Q I1 q1
 | false=>exact hb pins s1 σ H1 Q I1 q1
end
end L2
namespace L2
open PySem PySem.Spec PyProof.Rows
noncomputable def SqL (K:W.Frag) (H:Hp) (a:Addr) (xs:List V):Prop:=
 Rd H a (.lst xs)∨
  ∃ (o:Obj) (its:Array Value) (n:Nat),K.lookup a=some o/\o.cls=.type "list"/\o.dict=none/\o.data=.seq its n/\its.size<=sizeLine/\Vals xs its.toList
noncomputable def SqT (K:W.Frag) (H:Hp) (a:Addr) (xs:List V):Prop:=
 Rd H a (.tup xs)∨
  ∃ (o:Obj) (its:Array Value) (n:Nat),K.lookup a=some o/\o.cls=.type "tuple"/\o.data=.seq its n/\its.size<=sizeLine/\Vals xs its.toList
noncomputable def absV:Value->Option V
 | .none=>some .non
 | .bool b=>some (.bl b)
 | .int i _=>some (.int i)
 | .str x _=>some (.str x)
 | .bytes b _=>some (.byt b)
 | .float b _=>some (.flt b)
 | .ref a=>some (.ref a)
 | .type n=>some (.ty n)
 | _=>none
theorem RelV.abs {x:V} {u:Value} (r:RelV x u):absV u=some x:=by
 cases x with
 | non=>cases r;rfl
 | bl _=>cases r;rfl
 | int _=>obtain ⟨t,rfl⟩:=r;rfl
 | str _=>obtain ⟨t,rfl⟩:=r;rfl
 | byt _=>obtain ⟨t,rfl⟩:=r;rfl
 | flt _=>obtain ⟨t,rfl⟩:=r;rfl
 | ref _=>cases r;rfl
 | ty _=>cases r;rfl
theorem RelV.inj {x y:V} {u:Value} (r:RelV x u) (q:RelV y u):x=y:=eZ (r.abs.symm.trans q.abs)
theorem Vals.inj:∀ {xs ys:List V} {us:List Value},Vals xs us->Vals ys us->xs=ys
 | _,_,_,.nil,.nil=>rfl
 | _,_,_,.cons r t,.cons r' t'=>by rw [r.inj r',Vals.inj t t']
section
variable {X:Cx} {pins:List (Addr × Obj)} {σ:St} {H:Hp} {s:Shared} {a:Addr} {xs ys:List V}
theorem SqL.of {K:W.Frag} (h:H a=some (.lst xs)):SqL K H a xs:=.inl (.inl h)
theorem SqT.of {K:W.Frag} (h:H a=some (.tup xs)):SqT K H a xs:=.inl (.inl h)
theorem Inv.list (I:Inv X pins σ H s) (h:SqL X.K H a xs):∃ its:List Value,Vals xs its/\PlainL s.heap a its.toArray/\xs.length<=sizeLine:=by
 rcases h with h | ⟨o,its,n,hk,hc,hd,hs,hz,r⟩
 ·obtain ⟨z,its,n,r,e⟩:=h.ok I.hok;exact ⟨its,r,⟨_,n,e,rfl,rfl,rfl⟩,z⟩
 ·refine ⟨its.toList,r,⟨o,n,I.kIn a o hk,hc,hd,by simpa using hs⟩,?_⟩;have e:=r.length;simp only [fe] at e;omega
theorem Inv.tuple (I:Inv X pins σ H s) (h:SqT X.K H a xs):∃ its:List Value,Vals xs its/\IsTup s.heap a its.toArray/\xs.length<=sizeLine:=by
 rcases h with h | ⟨o,its,n,hk,hc,hs,hz,r⟩
 ·obtain ⟨z,its,r,p⟩:=h.ok I.hok;exact ⟨its,r,p,z⟩
 ·refine ⟨its.toList,r,⟨o,I.kIn a o hk,hc,n,by simpa using hs⟩,?_⟩;have e:=r.length;simp only [fe] at e;omega
theorem Inv.list_inj (I:Inv X pins σ H s) (h:SqL X.K H a xs) (h':SqL X.K H a ys):xs=ys:=by
 obtain ⟨its,r,⟨o,n,e,_,_,d⟩,_⟩:=I.list h;obtain ⟨its',r',⟨o',n',e',_,_,d'⟩,_⟩:=I.list h';rw [e] at e';cases e';rw [d] at d';injection d' with d1 _
 have:its=its':=by simpa using fv Array.toList d1
 subst this;exact r.inj r'
theorem Inv.tuple_inj (I:Inv X pins σ H s) (h:SqT X.K H a xs) (h':SqT X.K H a ys):xs=ys:=by
 obtain ⟨its,r,⟨o,e,_,n,d⟩,_⟩:=I.tuple h;obtain ⟨its',r',⟨o',e',_,n',d'⟩,_⟩:=I.tuple h';rw [e] at e';cases e';rw [d] at d';injection d' with d1 _
 have:its=its':=by simpa using fv Array.toList d1
 subst this;exact r.inj r'
end
noncomputable abbrev Cx.wish (X:Cx) (E:Value->Shared->Prop):Cx:={ X with xe:=E }
noncomputable abbrev Cx.nox (X:Cx):Cx:=X.wish λ _ _=>False
theorem Cx.Ok.wish {X:Cx} (ok:X.Ok) (E:Value->Shared->Prop):(X.wish E).Ok:=
 ⟨ok.mod,ok.kind,ok.glob,ok.blt,ok.above,ok.inj,ok.has,ok.cab,ok.hd,ok.frames,ok.stk,ok.exf,ok.bs,ok.bsz,ok.noex,ok.exfs,ok.funs,ok.frf⟩
theorem Cx.Ok.unwish {X:Cx} {E:Value->Shared->Prop} (ok:(X.wish E).Ok):X.Ok:=
 ⟨ok.mod,ok.kind,ok.glob,ok.blt,ok.above,ok.inj,ok.has,ok.cab,ok.hd,ok.frames,ok.stk,ok.exf,ok.bs,ok.bsz,ok.noex,ok.exfs,ok.funs,ok.frf⟩
section
variable {X:Cx} {pins:List (Addr × Obj)} {σ:St} {H:Hp} {s:Shared} {E:Value->Shared->Prop}
theorem Inv.wish (I:Inv X pins σ H s) (E:Value->Shared->Prop):Inv (X.wish E) pins σ H s:=⟨I.ok.wish E,I.os,I.bare,I.base,I.loc,I.cell,I.free,I.freeC,I.pin,I.hok,I.len⟩
theorem Inv.unwish (I:Inv (X.wish E) pins σ H s):Inv X pins σ H s:=⟨I.ok.unwish,I.os,I.bare,I.base,I.loc,I.cell,I.free,I.freeC,I.pin,I.hok,I.len⟩
theorem SP.unwish {D:Ends} {f:Flow} {s':Shared} (h:SP (X.wish E) pins D f s'):SP X pins D f s':=by
 cases f with
 | next=>obtain ⟨σ',H',I,q⟩:=h;exact ⟨σ',H',I.unwish,q⟩
 | brk=>obtain ⟨σ',H',I,q⟩:=h;exact ⟨σ',H',I.unwish,q⟩
 | cont=>obtain ⟨σ',H',I,q⟩:=h;exact ⟨σ',H',I.unwish,q⟩
 | ret u=>obtain ⟨v,σ',H',I,r,q⟩:=h;exact ⟨v,σ',H',I.unwish,r,q⟩
theorem PSs.nox {st:List Stmt} {t:TS} (h:PSs X.nox st t):PSs X st t:=λ pins s σ H D I hw=>
 fh (h pins s σ H D (I.wish _) hw) (λ _ _ q=>q.unwish) λ _ _ z=>False.elim z
end
section
variable {X:Cx} {st:Stmt} {rest:List Stmt} {t u:TS} {e:Expr} {te:TE} {pos:Pos}
noncomputable def tNext:TS:=λ D σ H=>D.nx σ H
noncomputable def tSeq (t u:TS):TS:=λ D σ H=>t { D with nx:=u D } σ H
theorem aj:PSs X [] tNext:=λ _ _ σ H _ I h=>wpAny_execs_nil ⟨σ,H,I,h⟩
theorem ad (h1:PS X st t) (h2:PSs X rest u):PSs X (st::rest) (tSeq t u):=by
 intro pins s σ H D I h;refine wpAny_execs_cons (thn (h1 pins s σ H { D with nx:=u D } I h) λ f s1 q=>?_)
 cases f with
 | next=>
  obtain ⟨σ',H',I',q⟩:=q;exact h2 pins s1 σ' H' D I' q
 | ret v=>exact q
 | brk=>exact q
 | cont=>exact q
theorem ae (h1:PS X st t):PSs X [st] t:=by
 intro pins s σ H D I h;refine wpAny_execs_cons (thn (h1 pins s σ H D I h) λ f s1 q=>?_)
 cases f with
 | next=>exact wpAny_execs_nil q
 | ret v=>exact q
 | brk=>exact q
 | cont=>exact q
theorem Inv.quiet {pins:List (Addr × Obj)} {σ:St} {H:Hp} {s:Shared} (I:Inv X pins σ H s):interactive X.env=false:=by simp [interactive,I.ok.kind]
noncomputable def tDrop (te:TE):TS:=λ D σ H=>te σ H λ _ H1=>D.nx σ H1
theorem bf (he:PE X e te) (hs:swapsWith e none pos.line X.env=pure false:=by rfl):PS X (.Expr e pos) (tDrop te):=by
 intro pins s σ H D I h;exact wpAny_Expr_any (thn (he pins s σ H _ I h) λ v s1 ⟨x,H1,I1,r1,q1⟩=>⟨σ,H1,I1,q1⟩) I.quiet hs
noncomputable def tRet (te:TE):TS:=λ D σ H=>te σ H D.rt
theorem av (he:PE X e te):PS X (.Return (some e) pos) (tRet te):=by
 intro pins s σ H D I h;exact wpAny_Return_some (thn (he pins s σ H _ I h) λ v s1 ⟨x,H1,I1,r1,q1⟩=>⟨x,σ,H1,I1,r1,q1⟩)
noncomputable def tRetN:TS:=λ D _ H=>D.rt .non H
theorem ps_retN:PS X (.Return none pos) tRetN:=λ _ _ σ H _ I h=>wpAny_Return_none ⟨.non,σ,H,I,rfl,h⟩
noncomputable def tIfS (c:TT) (t u:TS):TS:=λ D σ H=>c σ H λ b H1=>if b=true then t D σ H1 else u D σ H1
theorem aB {c:Expr} {a b:List Stmt} {tc:TT} (hc:PT X c tc) (ha:PSs X a t) (hb:PSs X b u):PS X (.If c a b pos) (tIfS tc t u):=by
 intro pins s σ H D I h;refine wpAny_If (thn (hc pins s σ H _ I h) λ d s1 ⟨H1,I1,q1⟩=>?_)
 cases d with
 | true=>exact ha pins s1 σ H1 D I1 q1
 | false=>exact hb pins s1 σ H1 D I1 q1
noncomputable def tNever:TS:=λ _ _ _=>False
theorem aO:PS X st tNever:=λ _ _ _ _ _ _ h=>h.elim
end
noncomputable abbrev TG:=V->St->Hp->(St->Hp->Prop)->Prop
noncomputable abbrev TGs:=List V->St->Hp->(St->Hp->Prop)->Prop
noncomputable def PG (X:Cx) (target:Expr) (t:TG):Prop:=
 ∀ (pins:List (Addr × Obj)) (s:Shared) (σ:St) (H:Hp) (v:V) (u:Value) (Q:St->Hp->Prop),Inv X pins σ H s->RelV v u->t v σ H Q->
  wpAny (model X.prog X.w) X.A (assign target X.env u) (λ _ s'=>∃ σ' H',Inv X pins σ' H' s'/\Q σ' H') X.xe s
noncomputable def PGs (X:Cx) (ts:List Expr) (t:TGs):Prop:=
 ∀ (pins:List (Addr × Obj)) (s:Shared) (σ:St) (H:Hp) (vs:List V) (us:List Value) (Q:St->Hp->Prop),Inv X pins σ H s->Vals vs us->t vs σ H Q->
  wpAny (model X.prog X.w) X.A (assignInOrder ((assignEach ts X.env).map (·.2)) us) (λ _ s'=>∃ σ' H',Inv X pins σ' H' s'/\Q σ' H') X.xe s
noncomputable abbrev TSet:=V->V->V->Hp->(Hp->Prop)->Prop
noncomputable abbrev TIp:=V->V->Hp->VK->Prop
section
variable {X:Cx} {pos:Pos}
noncomputable def gName (i:Nat):TG:=λ v σ H Q=>Q (σ.set i (some v)) H
theorem bt {i:Nat} {x:Str} (hN:X.N.Nodup) (hi:X.N[i]?=some x) (hx:Loc X.env.scope x) (hf:X.fn x=true∨X.env.scope.names.lookup x=some .local:=by first | exact .inl rfl | exact .inr rfl | assumption):PG X (.Name x pos) (gName i):=by
 intro pins s σ H v u Q I r h;exact wpAny_assign_Name (dP I hN hi hx r (λ s' I'=>⟨_,H,I',h⟩) hf)
noncomputable def gNil:TGs:=λ vs σ H Q=>vs=[]/\Q σ H
inductive IgCons (t:TG) (u:TGs) (vs:List V) (σ:St) (H:Hp) (Q:St->Hp->Prop):Prop
 | mk (v:_) (r:_) (h1:vs=v::r) (h2:t v σ H λ σ' H'=>u r σ' H' Q):IgCons t u vs σ H Q
noncomputable def gCons (t:TG) (u:TGs):TGs:=λ vs σ H Q=>IgCons t u vs σ H Q
theorem pgs_nil:PGs X [] gNil:=by
 intro pins s σ H vs us Q I r h;obtain ⟨e,h⟩:=h;subst e
 cases r;exact assignInOrder_nil ⟨σ,H,I,h⟩
theorem dX {e:Expr} {es:List Expr} {t:TG} {u:TGs} (h1:PG X e t) (h2:PGs X es u)
  (hs:(assignEach (e::es) X.env).map (·.2)=assign e X.env::(assignEach es X.env).map (·.2):=by rfl):PGs X (e::es) (gCons t u):=by
 intro pins s σ H vs us Q I r h;obtain ⟨v,vr,e1,h⟩:=h;subst e1
 cases r with
 | cons r rr=>
  rw [hs];refine assignInOrder_cons (thn (h1 pins s σ H _ _ _ I r h) λ _ s1 ⟨σ1,H1,I1,q1⟩=>?_);exact h2 pins s1 σ1 H1 _ _ Q I1 rr q1
inductive IgTup (K:W.Frag) (n:Nat) (t:TGs) (v:V) (σ:St) (H:Hp) (Q:St->Hp->Prop):Prop
 | mk (a:_) (xs:_) (h1:v=.ref a) (h2:SqT K H a xs) (h3:xs.length=n) (h4:t xs σ H Q):IgTup K n t v σ H Q
noncomputable def gTup (K:W.Frag) (n:Nat) (t:TGs):TG:=λ v σ H Q=>IgTup K n t v σ H Q
theorem pg_tup {es:List Expr} {k:Nat} {t:TGs} {n:Nat} (hc:X.calm=true) (h:PGs X es t)
  (hn:(assignEach es X.env).length=n:=by rfl) (hst:(assignEach es X.env).findIdx? (·.1)=none:=by rfl):PG X (.Tuple es k pos) (gTup X.K n t):=by
 intro pins s σ H v u Q I r hw;obtain ⟨a,xs,e1,hq,hl,hw⟩:=hw;subst e1
 cases r;obtain ⟨its,rv,ht,hz⟩:=I.tuple hq;refine assign_Tuple_tuple (I.ok.hd hc) ht (by simp [hn,<- hl,rv.length]) hst λ h' hx=>?_;have I1:Inv X pins σ H { s with heap:=h' }:=I.kept (t':=s.toks) λ b o e=>hx b o (fg (eL e)) e;exact h pins _ σ H xs _ Q I1 (by simpa using rv) hw
noncomputable def tAsg (te:TE) (g:TG):TS:=λ D σ H=>te σ H λ x H1=>g x σ H1 D.nx
theorem aD {i:Nat} {x:Str} {e:Expr} {te:TE} {pos':Pos} (hN:X.N.Nodup) (hi:X.N[i]?=some x) (hx:Loc X.env.scope x) (he:PE X e te) (hs:swapsWith e (some (.Name x pos')) pos.line X.env=pure false:=by rfl) (hf:X.fn x=true∨X.env.scope.names.lookup x=some .local:=by first | exact .inl rfl | exact .inr rfl | assumption) :
  PS X (.Assign [.Name x pos'] e pos) (tAsg te (gName i)):=by
 intro pins s σ H D I h;refine wpAny_Assign_Name (thn (he pins s σ H _ I h) λ v s1 ⟨y,H1,I1,r1,q1⟩=>?_) hs;exact dP I1 hN hi hx r1 (λ s2 I2=>⟨_,H1,I2,q1⟩) hf
inductive ItPar (i:Nat) (j:Nat) (D:Ends) (σ:St) (vs:List V) (H1:Hp):Prop
 | mk (v:_) (w:_) (h1:vs=[v,w]) (h2:D.nx ((σ.set i (some v)).set j (some w)) H1):ItPar i j D σ vs H1
end
section
variable {X:Cx} {pos:Pos}
noncomputable def tWhile (c:TT) (tb:TS):TS:=λ D σ H=>∃ W:Nat->St->Hp->Prop,(∃ m,W m σ H)/\∀ m σ H,W m σ H->
 c σ H λ b H1=>if b=true then ∃ N:St->Hp->Prop,(∀ σ' H',N σ' H'->∃ m',m'<m/\W m' σ' H')/\tb { D with nx:=N,ct:=N,bk:=D.nx } σ H1 else D.nx σ H1
theorem ps_while {c:Expr} {body:List Stmt} {tc:TT} {tb:TS} (hp:PassesOwn (model X.prog X.w) X.A X.env X.xe) (hc:PT X c tc) (hb:PSs X body tb):PS X (.While c body [] pos) (tWhile tc tb):=by
 intro pins s σ H D I h;obtain ⟨W,⟨m0,w0⟩,turn⟩:=h;refine wpAny_While (codeAny_whileLoop (λ n s'=>∃ σ' H',Inv X pins σ' H' s'/\W n σ' H') ?_ m0 ⟨σ,H,I,w0⟩);rintro n s1 ⟨σ1,H1,I1,w1⟩;refine wpAny_passesOwn hp (thn (hc pins s1 σ1 H1 _ I1 (turn n σ1 H1 w1)) λ b s2 ⟨H2,I2,q2⟩=>?_)
 cases b with
 | true=>
  obtain ⟨N,hN,q2⟩:=q2;rw [if_pos rfl];refine wpAny_passesOwn hp (thn (hb pins s2 σ1 H2 _ I2 q2) λ f s3 q3=>?_)
  cases f with
  | next=>
   obtain ⟨σ3,H3,I3,n3⟩:=q3;obtain ⟨m',hm,w3⟩:=hN σ3 H3 n3;exact ⟨m',hm,σ3,H3,I3,w3⟩
  | cont=>
   obtain ⟨σ3,H3,I3,n3⟩:=q3;obtain ⟨m',hm,w3⟩:=hN σ3 H3 n3;exact ⟨m',hm,σ3,H3,I3,w3⟩
  | brk=>exact q3
  | ret v=>exact q3
 | false=>
  rw [if_neg eO];exact wpAny_execs_nil ⟨σ1,H2,I2,q2⟩
end
structure It where
 go:Nat->Hp->Prop
 yld:Nat->Hp->V->Hp->Prop
 stop:Nat->Hp->Prop
noncomputable def FpOk (X:Cx) (pins:List (Addr × Obj)) (H:Hp) (b:Addr):Prop:=
 H b=none/\b≠X.env.locals/\b ∉ X.fs/\(b∈X.ex∨X.s₀.heap.objs.size<=b)/\(∀ x c,X.env.cells.lookup x=some c->c≠b)/\∀ p∈X.pn++pins,p.1≠b
theorem Inv.fpOk {X:Cx} {pins:List (Addr × Obj)} {σ:St} {H H':Hp} {s:Shared} {b:Addr} (I:Inv X pins σ H s) (hb:s.heap.objs.size<=b) (hn:H' b=none):FpOk X pins H' b:=by
 refine ⟨hn,Nat.ne_of_gt (eP I.lt hb),I.nofs hb,.inr (eQ I.sz hb),λ x c e z=>?_,λ p hp z=>?_⟩
 ·obtain ⟨v,q⟩:=I.cell x c e;exact absurd (eP q.lt (by rw [z];exact hb)) (fw _)
 ·exact absurd (eP (eL (I.pin p hp).1) (by rw [z];exact hb)) (fw _)
structure Turn (P:Program) (w:World) (K:W.Frag) (tg:Expr) (J:It) (fp:List Addr) (it:Addr) (tn:Nat->Heap->Prop):Prop where
 mem:it∈fp
 obj:∀ i h,tn i h->∀ b∈fp,∃ o,h.get? b=some o/\∀ v,o.data≠.cell v
 keep:∀ i h h',tn i h->(∀ b∈fp,∀ o,h.get? b=some o->h'.get? b=some o)->tn i h'
 item:∀ (X:Cx),X.prog=P->X.w=w->X.K=K->X.calm=true->∀ (i:Nat) (pins:List (Addr × Obj)) (s:Shared) (σ:St) (H:Hp) (E:Value->Shared->Prop),Inv X pins σ H s->(∀ b∈fp,FpOk X pins H b)->tn i s.heap->J.go i H->
  wpAny (model P w) X.A (pyNext (.ref it)) (λ r s1=>∃ u,r=some u/\
   wpAny (model P w) X.A (letOwnedTupleGo tg (.ref it) u) (λ _ s2=>∃ x H',Inv X pins σ H' s2/\RelV x u/\J.yld i H x H'/\tn (i+1) s2.heap/\∀ b∈fp,H' b=none) E s1) E s
 done:∀ (X:Cx),X.prog=P->X.w=w->X.K=K->X.calm=true->∀ (i:Nat) (pins:List (Addr × Obj)) (s:Shared) (σ:St) (H:Hp) (E:Value->Shared->Prop),Inv X pins σ H s->(∀ b∈fp,FpOk X pins H b)->tn i s.heap->J.stop i H->
  wpAny (model P w) X.A (pyNext (.ref it)) (λ r s1=>r=none/\Inv X pins σ H s1) E s
 self:∀ (A:Around) (i:Nat) (s:Shared) (Q:Value->Shared->Prop) (E:Value->Shared->Prop),tn i s.heap->Q (.ref it) s->wpAny (model P w) A (pyIter (.ref it)) Q E s
noncomputable abbrev TI:=St->Hp->(It->Hp->Prop)->Prop
noncomputable def PIE (X:Cx) (pins:List (Addr × Obj)) (σ:St) (tg:Expr) (R:It->Hp->Prop) (itv:Value) (s2:Shared):Prop:=
 ∃ (it:Addr) (fp:List Addr) (tn:Nat->Heap->Prop) (J:It) (H':Hp),itv=.ref it/\Inv X pins σ H' s2/\Turn X.prog X.w X.K tg J fp it tn/\tn 0 s2.heap/\(∀ b∈fp,FpOk X pins H' b)/\R J H'
noncomputable def PI (X:Cx) (tg iter:Expr) (wi:TI):Prop:=
 ∀ (pins:List (Addr × Obj)) (s:Shared) (σ:St) (H:Hp) (R:It->Hp->Prop),Inv X pins σ H s->wi σ H R->
  wpAny (model X.prog X.w) X.A (eval iter X.env) (λ v s1=>wpAny (model X.prog X.w) X.A (pyIter v) (PIE X pins σ tg R) X.xe s1) X.xe s
theorem go_of {M:Model} {A:Around} {E:Value->Shared->Prop} {s:Shared} {tg:Expr} {it:Addr} {u:Value} {o:Obj} {n:String} {vs:Array Value} {Q:Unit->Shared->Prop} (ho:s.heap.get? it=some o) (hc:o.cls=.type n) (hd:o.data=.fields vs)
    (hn:["enumerate","zip","dict_itemiterator","dict_reverseitemiterator","odict_iterator","itertools.zip_longest","itertools.pairwise"].contains n=false) (hQ:Q () s):wpAny M A (letOwnedTupleGo tg (.ref it) u) Q E s:=by
  unfold letOwnedTupleGo
  cases tg <;> first
    | exact eJ hQ
    | (cases u <;> first
        | exact eJ hQ
        | (refine eo (wpAny_load ho ?_)
           rw [hc,hd];show wpAny M A (if (["enumerate","zip","dict_itemiterator","dict_reverseitemiterator","odict_iterator","itertools.zip_longest","itertools.pairwise"].contains n && vs[0]? == some (rawInt _))=true then _ else _) Q E s;rw [if_neg (by intro h;rw [hn,Bool.false_and] at h;cases h)];exact eJ hQ))
noncomputable def Itl (K:W.Frag) (a:Addr):It:=
 ⟨λ i H=>∃ xs x,SqL K H a xs/\xs[i]?=some x,λ i H x H'=>H'=H/\∀ xs,SqL K H a xs->xs[i]?=some x,λ i H=>∃ xs,SqL K H a xs/\xs.length<=i⟩
noncomputable def Itt (K:W.Frag) (a:Addr):It:=
 ⟨λ i H=>∃ xs x,SqT K H a xs/\xs[i]?=some x,λ i H x H'=>H'=H/\∀ xs,SqT K H a xs->xs[i]?=some x,λ i H=>∃ xs,SqT K H a xs/\xs.length<=i⟩
noncomputable def Itr (lo:Int) (n:Nat):It:=⟨λ i _=>i<n,λ i H x H'=>H'=H/\x=.int (lo+i),λ i _=>n<=i⟩
theorem turn_list {P:Program} {w:World} {K:W.Frag} {tg:Expr} (a it:Addr):Turn P w K tg (Itl K a) [it] it (λ i h=>h.IsListIter it a i) where
 mem:=by simp
 obj:=λ i h st b hb=>by
  have e:b=it:=by simpa using hb
  subst e;obtain ⟨o,e,c,d⟩:=st;exact ⟨o,e,λ v z=>by rw [d] at z;cases z⟩
 keep:=λ i h h' st k=>st.at λ o e=>k it (by simp) o e
 item:=by
  intro X hP hw hK hc i pins s σ H E I hf st hg;subst hP hw hK;obtain ⟨xs,x,hq,hx⟩:=hg;obtain ⟨its,rv,p,hz⟩:=I.list hq;obtain ⟨u,hu,ru⟩:=rv.get hx;obtain ⟨f0,f1,f2,f3,f4,f5⟩:=hf it (by simp);refine wpAny_pyNext_list_item st p.isList (x:=u) (by simpa using hu) λ h' st' sb=>?_;have I1:Inv X pins σ H { s with heap:=h' }:=I.turned (t':=s.toks) (λ b o hb e=>(sb.2 b hb).trans e) f0 f1 f3 f4 f5;obtain ⟨o,e,c,d⟩:=id st';exact ⟨u,rfl,go_of (s:={ s with heap:=h' }) e c d (by decide) ⟨x,H,I1,ru,⟨rfl,λ ys hy=>by rw [I.list_inj hy hq];exact hx⟩,st',λ b hb=>(hf b hb).1⟩⟩
 done:=by
  intro X hP hw hK hc i pins s σ H E I hf st hg;subst hP hw hK;obtain ⟨xs,hq,hx⟩:=hg;obtain ⟨its,rv,p,hz⟩:=I.list hq;obtain ⟨f0,f1,f2,f3,f4,f5⟩:=hf it (by simp);have hl:=rv.length;exact wpAny_pyNext_list_end (I.ok.hd hc) st p.isList (by simp;omega) λ h' eb=>⟨rfl,I.turned (t':=s.toks) (λ b o hb e=>eb b o hb e) f0 f1 f3 f4 f5⟩
 self:=λ _ _ _ _ _ st h=>wpAny_pyIter_listiter st h
theorem turn_tuple {P:Program} {w:World} {K:W.Frag} {tg:Expr} (a it:Addr):Turn P w K tg (Itt K a) [it] it (λ i h=>h.IsTupleIter it a i) where
 mem:=by simp
 obj:=λ i h st b hb=>by
  have e:b=it:=by simpa using hb
  subst e;obtain ⟨o,e,c,d⟩:=st;exact ⟨o,e,λ v z=>by rw [d] at z;cases z⟩
 keep:=λ i h h' st k=>st.at λ o e=>k it (by simp) o e
 item:=by
  intro X hP hw hK hc i pins s σ H E I hf st hg;subst hP hw hK;obtain ⟨xs,x,hq,hx⟩:=hg;obtain ⟨its,rv,p,hz⟩:=I.tuple hq;obtain ⟨u,hu,ru⟩:=rv.get hx;obtain ⟨f0,f1,f2,f3,f4,f5⟩:=hf it (by simp);refine wpAny_pyNext_tuple_item st (show s.heap.IsTuple a its.toArray from p) (x:=u) (by simpa using hu) λ h' st' sb=>?_;have I1:Inv X pins σ H { s with heap:=h' }:=I.turned (t':=s.toks) (λ b o hb e=>(sb.2 b hb).trans e) f0 f1 f3 f4 f5;obtain ⟨o,e,c,d⟩:=id st';exact ⟨u,rfl,go_of (s:={ s with heap:=h' }) e c d (by decide) ⟨x,H,I1,ru,⟨rfl,λ ys hy=>by rw [I.tuple_inj hy hq];exact hx⟩,st',λ b hb=>(hf b hb).1⟩⟩
 done:=by
  intro X hP hw hK hc i pins s σ H E I hf st hg;subst hP hw hK;obtain ⟨xs,hq,hx⟩:=hg;obtain ⟨its,rv,p,hz⟩:=I.tuple hq;obtain ⟨f0,f1,f2,f3,f4,f5⟩:=hf it (by simp);have hl:=rv.length;exact wpAny_pyNext_tuple_end (I.ok.hd hc) st (show s.heap.IsTuple a its.toArray from p) (by simp;omega) λ h' eb=>⟨rfl,I.turned (t':=s.toks) (λ b o hb e=>eb b o hb e) f0 f1 f3 f4 f5⟩
 self:=λ _ _ _ _ _ st h=>wpAny_pyIter_tupleiter st h
theorem turn_range {P:Program} {w:World} {K:W.Frag} {tg:Expr} (it:Addr) (lo:Int) (n:Nat):Turn P w K tg (Itr lo n) [it] it (λ i h=>IsRangeIter h it (lo+(i:Nat)*1) ((n:Int)-(i:Nat)) 1) where
 mem:=by simp
 obj:=λ i h st b hb=>by
  have e:b=it:=by simpa using hb
  subst e
  exact ⟨_,st,λ v z=>by
   have z':Data.fields _=Data.cell v:=z
   cases z'⟩
 keep:=λ i h h' st k=>k it (by simp) _ st
 item:=by
  intro X hP hw hK hc i pins s σ H E I hf st hg;subst hP hw hK;obtain ⟨f0,f1,f2,f3,f4,f5⟩:=hf it (by simp);have W:=Walks.range (prog:=X.prog) (w:=X.w) (I.ok.hd hc) it lo 1 n;refine W.item i s _ _ hg st λ v h' tk hv st' kk=>?_;obtain ⟨t,rfl⟩:=hv;have I1:Inv X pins σ H { s with heap:=h',toks:=tk }:=I.turned (λ b o hb e=>kk b o (by simpa using hb) e) f0 f1 f3 f4 f5;refine ⟨_,rfl,go_of (s:={ s with heap:=h',toks:=tk }) (n:="range_iterator") st' rfl rfl (by decide) ⟨.int (lo+i),H,I1,⟨t,?_⟩,⟨rfl,rfl⟩,st',λ b hb=>(hf b hb).1⟩⟩;rw [Int.mul_one]
 done:=by
  intro X hP hw hK hc i pins s σ H E I hf st hg;subst hP hw hK;obtain ⟨f0,f1,f2,f3,f4,f5⟩:=hf it (by simp);exact wpAny_pyNext_range_end (I.ok.hd hc) st (by have:n<=i:=hg;omega) λ h' eb=>⟨rfl,I.turned (t':=s.toks) (λ b o hb e=>eb b o hb e) f0 f1 f3 f4 f5⟩
 self:=λ _ _ _ _ _ st h=>wpAny_pyIter_rangeiter st h
end L2
namespace L2
open PySem PySem.Spec PyProof.Rows
section
variable {X:Cx} {tg:Expr}
inductive IiList (K:W.Frag) (R:It->Hp->Prop) (x:V) (H1:Hp):Prop
 | mk (a:_) (h1:x=.ref a) (h2:(∃ xs,SqL K H1 a xs)) (h3:R (Itl K a) H1):IiList K R x H1
noncomputable def iList (K:W.Frag) (tl:TE):TI:=λ σ H R=>tl σ H λ x H1=>IiList K R x H1
inductive IiTup (K:W.Frag) (R:It->Hp->Prop) (x:V) (H1:Hp):Prop
 | mk (a:_) (h1:x=.ref a) (h2:(∃ xs,SqT K H1 a xs)) (h3:R (Itt K a) H1):IiTup K R x H1
noncomputable def iTup (K:W.Frag) (tl:TE):TI:=λ σ H R=>tl σ H λ x H1=>IiTup K R x H1
theorem pi_list {l:Expr} {tl:TE} (hl:PE X l tl):PI X tg l (iList X.K tl):=by
 intro pins s σ H R I h;refine thn (hl pins s σ H _ I h) λ v s1 ⟨x,H1,I1,r1,q1⟩=>?_;obtain ⟨a,e,⟨xs,hq⟩,q⟩:=q1;subst e
 cases r1;obtain ⟨its,rv,p,hz⟩:=I1.list hq;refine wpAny_pyIter_list p.isList ?_;refine ⟨s1.heap.objs.size,[s1.heap.objs.size],_,_,H1,rfl,I1.kept (t':=s1.toks) λ b o e=>eA _ e,turn_list a _,⟨_,eM _ rfl,rfl,rfl⟩,λ b hb=>?_,q⟩;have e:b=s1.heap.objs.size:=by simpa using hb
 subst e;exact I1.fpOk (eC _) (I1.hok.fresh (eC _))
theorem pi_tup {l:Expr} {tl:TE} (hl:PE X l tl):PI X tg l (iTup X.K tl):=by
 intro pins s σ H R I h;refine thn (hl pins s σ H _ I h) λ v s1 ⟨x,H1,I1,r1,q1⟩=>?_;obtain ⟨a,e,⟨xs,hq⟩,q⟩:=q1;subst e
 cases r1;obtain ⟨its,rv,p,hz⟩:=I1.tuple hq;refine wpAny_pyIter_tuple (show s1.heap.IsTuple a its.toArray from p) ?_;refine ⟨s1.heap.objs.size,[s1.heap.objs.size],_,_,H1,rfl,I1.kept (t':=s1.toks) λ b o e=>eA _ e,turn_tuple a _,⟨_,eM _ rfl,rfl,rfl⟩,λ b hb=>?_,q⟩;have e:b=s1.heap.objs.size:=by simpa using hb
 subst e;exact I1.fpOk (eC _) (I1.hok.fresh (eC _))
theorem range_it {pins:List (Addr × Obj)} {σ:St} {H:Hp} {s:Shared} {R:It->Hp->Prop} {E:Value->Shared->Prop} {lo hi:Int} {t u v:Tok} {tk:Nat} (I:Inv X pins σ H s) (h1:-(2 ^ 62)<=lo) (h2:lo<2 ^ 62) (h3:-(2 ^ 62)<=hi) (h4:hi<2 ^ 62)
  (q:R (Itr lo (hi-lo).toNat) H):wpAny (model X.prog X.w) X.A (pyIter (.ref s.heap.objs.size)) (PIE X pins σ tg R) E { s with heap:=s.heap.push { cls:=.type "range",data:=.fields #[.int lo t,.int hi u,.int 1 v] },toks:=tk }:=by
 refine wpAny_pyIter_range (IsRange.new ..) (small_one h1 h2 h3 h4) ?_;have I1:Inv X pins σ H { s with heap:=s.heap.push { cls:=.type "range",data:=.fields #[.int lo t,.int hi u,.int 1 v] },toks:=tk }:=I.kept λ b o e=>eA _ e
 refine ⟨(s.heap.push { cls:=.type "range",data:=.fields #[.int lo t,.int hi u,.int 1 v] }).objs.size,[(s.heap.push { cls:=.type "range",data:=.fields #[.int lo t,.int hi u,.int 1 v] }).objs.size],_,_,H,rfl,
  I1.kept (t':=tk) λ b o e=>eA _ e,turn_range _ lo (hi-lo).toNat,?_,λ b hb=>?_,q⟩
 ·have e1:lo+((0:Nat):Int)*1=lo:=by simp
  have e2:(((hi-lo).toNat:Nat):Int)-((0:Nat):Int)=Builtin.Range.rangeSize lo hi 1:=by rw [rangeSize_one];split <;> omega
  show IsRangeIter _ _ (lo+((0:Nat):Int)*1) ((((hi-lo).toNat:Nat):Int)-((0:Nat):Int)) 1;rw [e1,e2];exact eM _ rfl
 ·have e:b=(s.heap.push { cls:=.type "range",data:=.fields #[.int lo t,.int hi u,.int 1 v] }).objs.size:=by simpa using hb
  subst e;exact I1.fpOk (eC _) (I1.hok.fresh (eC _))
noncomputable def iRng1 (ta:TA):TI:=λ σ H R=>ta σ H λ vs H1=>∃ j:Int,vs=[.int j]/\-(2 ^ 62)<=j/\j<2 ^ 62/\R (Itr 0 j.toNat) H1
theorem pi_range1 {a:Expr} {ta:TA} {p pos:Pos} (hg:Gl X "range") (hm:X.mg "range"=none) (ha:PA X [a] ta) (hs:starEach [a] X.env=[(false,eval a X.env)]:=by rfl):PI X tg (.Call (.Name "range" p) [a] [] pos) (iRng1 ta):=by
 intro pins s σ H R I h;refine Call_ (ld_blt I hg hm boot_range (PyProof.Rows.callWith_type1 (thn (ha pos pins s σ H _ I h) λ us s1 ⟨vs,H1,I1,r1,q1⟩=>?_) hs rfl));obtain ⟨j,e,q1,q2,q⟩:=q1;subst e
 cases r1 with
 | cons r rr=>
  cases rr;obtain ⟨t,rfl⟩:=r;exact call_range_1 (range_it I1 (by omega) (by omega) q1 q2 (by simpa using q))
noncomputable def tFor (wi:TI) (g:TG) (tb:TS):TS:=λ D σ H=>wi σ H λ J H1=>∃ W:Nat->Nat->St->Hp->Prop,(∃ m,W 0 m σ H1)/\∀ i m σ H,W i m σ H->
 (J.stop i H/\D.nx σ H)∨(J.go i H/\∃ N:St->Hp->Prop,(∀ σ' H',N σ' H'->∃ m',m'<m/\W (i+1) m' σ' H')/\∀ x H',J.yld i H x H'->g x σ H' λ σ2 H2=>tb { D with nx:=N,ct:=N,bk:=D.nx } σ2 H2)
noncomputable def pinsAt (fp:List Addr) (h:Heap):List (Addr × Obj):=fp.filterMap λ b=>(h.get? b).map λ o=>(b,o)
theorem bI {fp:List Addr} {h:Heap} {b:Addr} {o:Obj} (hb:b∈fp) (e:h.get? b=some o):(b,o)∈pinsAt fp h:=List.mem_filterMap.mpr ⟨b,hb,by rw [e];rfl⟩
theorem of_pinsAt {fp:List Addr} {h:Heap} {p:Addr × Obj} (hp:p∈pinsAt fp h):p.1∈fp/\h.get? p.1=some p.2:=by
 obtain ⟨b,hb,e⟩:=List.mem_filterMap.mp hp
 cases q:h.get? b with
 | none=>rw [q] at e;cases e
 | some o=>
  rw [q] at e;have e':(b,o)=p:=eZ e;subst e';exact ⟨hb,q⟩
theorem Inv.pinned {pins:List (Addr × Obj)} {σ:St} {H:Hp} {s:Shared} {fp:List Addr} (I:Inv X pins σ H s) (hf:∀ b∈fp,FpOk X pins H b) (ho:∀ b∈fp,∃ o,s.heap.get? b=some o/\∀ v,o.data≠.cell v):Inv X (pins++pinsAt fp s.heap) σ H s:=
 I.pins_of λ p hp=>(List.mem_append.mp hp).elim (λ z=>I.pin p (eR _ z)) λ z=>by
  obtain ⟨hb,e⟩:=of_pinsAt z;obtain ⟨f0,f1,f2,_⟩:=hf p.1 hb;obtain ⟨o,e',d⟩:=ho p.1 hb;rw [e] at e';cases e';exact ⟨e,f0,f1,f2,d⟩
theorem Inv.unpinned {pins pl:List (Addr × Obj)} {σ:St} {H:Hp} {s:Shared} (I:Inv X (pins++pl) σ H s):Inv X pins σ H s:=I.pins_of λ p hp=>I.pin p (eR _ (List.mem_append_left _ hp))
theorem cW {iter:Expr} {body:List Stmt} {wi:TI} {g:TG} {tb:TS} {pos:Pos} (hp:PassesOwn (model X.prog X.w) X.A X.env X.xe) (hc:X.calm=true) (hi:PI X tg iter wi) (hg:PG X tg g) (hb:PSs X body tb)
  (hs:∀ x,foldedSetIterable iter X.env x=pure x:=by intro _;rfl):PS X (.For tg iter body [] pos) (tFor wi g tb):=by
 intro pins s σ H D I h;refine wpAny_For (thn (hi pins s σ H _ I h) λ v s1 h1=>thn h1 λ itv s2 h2=>?_) hs;obtain ⟨it,fp,tn,J,H2,e,I2,T,st2,f2,W,⟨m0,w0⟩,turn⟩:=h2;subst e;have stat:∀ {H':Hp},(∀ b∈fp,H' b=none)->∀ b∈fp,FpOk X pins H' b:=λ hn b hb=>⟨hn b hb,(f2 b hb).2⟩;refine codeAny_forLoop_any (λ n s'=>∃ i σ' H',Inv X pins σ' H' s'/\tn i s'.heap/\(∀ b∈fp,H' b=none)/\W i n σ' H') ?_ m0 ⟨0,σ,H2,I2,st2,λ b hb=>(f2 b hb).1,w0⟩;rintro n s3 ⟨i,σ3,H3,I3,st3,fr3,w3⟩;rcases turn i n σ3 H3 w3 with ⟨stop,qn⟩ | ⟨go,N,hN,step⟩
 ·refine wpAny_passesOwn hp (thn (T.done X rfl rfl rfl hc i pins s3 σ3 H3 X.xe I3 (stat fr3) st3 stop) λ r s4 ⟨hr,I4⟩=>?_);subst hr;exact wpAny_execs_nil ⟨σ3,H3,I4,qn⟩
 ·refine wpAny_passesOwn hp (thn (T.item X rfl rfl rfl hc i pins s3 σ3 H3 X.xe I3 (stat fr3) st3 go) λ r s4 ⟨u,hr,h4⟩=>?_);subst hr;refine wpAny_passesOwn hp (thn h4 λ _ s5 ⟨x,H5,I5,r5,y5,st5,fr5⟩=>?_);have I5':=I5.pinned (stat fr5) (T.obj _ _ st5);refine wpAny_passesOwn hp (thn (hg _ s5 σ3 H5 x u _ I5' r5 (step x H5 y5)) λ _ s6 ⟨σ6,H6,I6,q6⟩=>?_);refine wpAny_passesOwn hp (thn (hb _ s6 σ6 H6 _ I6 q6) λ f s7 q7=>?_)
  have again:∀ {σ7:St} {H7:Hp},Inv X (pins++pinsAt fp s5.heap) σ7 H7 s7->N σ7 H7->∃ m,m<n/\∃ i σ' H',Inv X pins σ' H' s7/\tn i s7.heap/\(∀ b∈fp,H' b=none)/\W i m σ' H':=λ {σ7 H7} I7 n7=>by
   obtain ⟨m',hm,w7⟩:=hN σ7 H7 n7;refine ⟨m',hm,i+1,σ7,H7,I7.unpinned,T.keep _ _ _ st5 λ b hb o e=>(I7.pin (b,o) (eR _ (eR _ (bI hb e)))).1,λ b hb=>?_,w7⟩;obtain ⟨o,e,d⟩:=T.obj _ _ st5 b hb;exact (I7.pin (b,o) (eR _ (eR _ (bI hb e)))).2.1
  cases f with
  | next=>obtain ⟨σ7,H7,I7,n7⟩:=q7;exact again I7 n7
  | cont=>obtain ⟨σ7,H7,I7,n7⟩:=q7;exact again I7 n7
  | brk=>obtain ⟨σ7,H7,I7,q7⟩:=q7;exact ⟨σ7,H7,I7.unpinned,q7⟩
  | ret v=>obtain ⟨x7,σ7,H7,I7,r7,q7⟩:=q7;exact ⟨x7,σ7,H7,I7.unpinned,r7,q7⟩
end
theorem for_list {K:W.Frag} {a:Addr} {xs:List V} {g:TG} {tb:TS} {D:Ends} {σ:St} {H:Hp} (Pv:Nat->St->Hp->Prop) (h0:Pv 0 σ H) (hl:∀ i σ H,i<=xs.length->Pv i σ H->SqL K H a xs)
  (hs:∀ i x σ H,xs[i]?=some x->Pv i σ H->g x σ H λ σ2 H2=>tb { D with nx:=Pv (i+1),ct:=Pv (i+1),bk:=D.nx } σ2 H2) (hd:∀ σ H,Pv xs.length σ H->D.nx σ H) :
  ∃ W:Nat->Nat->St->Hp->Prop,(∃ m,W 0 m σ H)/\∀ i m σ H,W i m σ H->
   ((Itl K a).stop i H/\D.nx σ H)∨((Itl K a).go i H/\∃ N:St->Hp->Prop,(∀ σ' H',N σ' H'->∃ m',m'<m/\W (i+1) m' σ' H')/\∀ x H',(Itl K a).yld i H x H'->g x σ H' λ σ2 H2=>tb { D with nx:=N,ct:=N,bk:=D.nx } σ2 H2):=by
 refine ⟨λ i m σ H=>m=xs.length-i/\i<=xs.length/\Pv i σ H,⟨xs.length,by simp,fP _,h0⟩,?_⟩;rintro i m σ H ⟨rfl,hi,p⟩;have q:=hl i σ H hi p;by_cases hlt:i<xs.length
 ·refine .inr ⟨⟨xs,xs[i],q,by simp [hlt]⟩,Pv (i+1),λ σ' H' p'=>⟨xs.length-(i+1),by omega,rfl,hlt,p'⟩,λ x H' y=>?_⟩;obtain ⟨e,y⟩:=y;subst e;exact hs i x σ _ (y xs q) p
 ·have e:i=xs.length:=by omega
  subst e;exact .inl ⟨⟨xs,q,eC _⟩,hd σ H p⟩
theorem for_tup {K:W.Frag} {a:Addr} {xs:List V} {g:TG} {tb:TS} {D:Ends} {σ:St} {H:Hp} (Pv:Nat->St->Hp->Prop) (h0:Pv 0 σ H) (hl:∀ i σ H,i<=xs.length->Pv i σ H->SqT K H a xs)
  (hs:∀ i x σ H,xs[i]?=some x->Pv i σ H->g x σ H λ σ2 H2=>tb { D with nx:=Pv (i+1),ct:=Pv (i+1),bk:=D.nx } σ2 H2) (hd:∀ σ H,Pv xs.length σ H->D.nx σ H) :
  ∃ W:Nat->Nat->St->Hp->Prop,(∃ m,W 0 m σ H)/\∀ i m σ H,W i m σ H->
   ((Itt K a).stop i H/\D.nx σ H)∨((Itt K a).go i H/\∃ N:St->Hp->Prop,(∀ σ' H',N σ' H'->∃ m',m'<m/\W (i+1) m' σ' H')/\∀ x H',(Itt K a).yld i H x H'->g x σ H' λ σ2 H2=>tb { D with nx:=N,ct:=N,bk:=D.nx } σ2 H2):=by
 refine ⟨λ i m σ H=>m=xs.length-i/\i<=xs.length/\Pv i σ H,⟨xs.length,by simp,fP _,h0⟩,?_⟩;rintro i m σ H ⟨rfl,hi,p⟩;have q:=hl i σ H hi p;by_cases hlt:i<xs.length
 ·refine .inr ⟨⟨xs,xs[i],q,by simp [hlt]⟩,Pv (i+1),λ σ' H' p'=>⟨xs.length-(i+1),by omega,rfl,hlt,p'⟩,λ x H' y=>?_⟩;obtain ⟨e,y⟩:=y;subst e;exact hs i x σ _ (y xs q) p
 ·have e:i=xs.length:=by omega
  subst e;exact .inl ⟨⟨xs,q,eC _⟩,hd σ H p⟩
theorem for_range {lo:Int} {n:Nat} {g:TG} {tb:TS} {D:Ends} {σ:St} {H:Hp} (Pv:Nat->St->Hp->Prop) (h0:Pv 0 σ H)
  (hs:∀ i σ H,i<n->Pv i σ H->g (.int (lo+i)) σ H λ σ2 H2=>tb { D with nx:=Pv (i+1),ct:=Pv (i+1),bk:=D.nx } σ2 H2) (hd:∀ σ H,Pv n σ H->D.nx σ H) :
  ∃ W:Nat->Nat->St->Hp->Prop,(∃ m,W 0 m σ H)/\∀ i m σ H,W i m σ H->
   ((Itr lo n).stop i H/\D.nx σ H)∨((Itr lo n).go i H/\∃ N:St->Hp->Prop,(∀ σ' H',N σ' H'->∃ m',m'<m/\W (i+1) m' σ' H')/\∀ x H',(Itr lo n).yld i H x H'->g x σ H' λ σ2 H2=>tb { D with nx:=N,ct:=N,bk:=D.nx } σ2 H2):=by
 refine ⟨λ i m σ H=>m=n-i/\i<=n/\Pv i σ H,⟨n,by simp,fP _,h0⟩,?_⟩;rintro i m σ H ⟨rfl,hi,p⟩;by_cases hlt:i<n
 ·refine .inr ⟨hlt,Pv (i+1),λ σ' H' p'=>⟨n-(i+1),by omega,rfl,hlt,p'⟩,λ x H' y=>?_⟩;obtain ⟨e,y⟩:=y;subst e y;exact hs i σ _ hlt p
 ·have e:i=n:=by omega
  subst e;exact .inl ⟨eC _,hd σ H p⟩
theorem while_by {c:TT} {tb:TS} {D:Ends} {σ:St} {H:Hp} (Pv:St->Hp->Prop) (μ:St->Hp->Nat) (h0:Pv σ H)
  (hs:∀ σ H,Pv σ H->c σ H λ b H1=>if b=true then tb { D with nx:=λ σ' H'=>Pv σ' H'/\μ σ' H' < μ σ H,ct:=λ σ' H'=>Pv σ' H'/\μ σ' H' < μ σ H,bk:=D.nx } σ H1 else D.nx σ H1)
  (mono:∀ σ H Q Q',(∀ b H1,Q b H1->Q' b H1)->c σ H Q->c σ H Q'):tWhile c tb D σ H:=by
 refine ⟨λ m σ H=>m = μ σ H/\Pv σ H,⟨_,rfl,h0⟩,?_⟩;rintro m σ H ⟨rfl,p⟩;refine mono σ H _ _ (λ b H1 q=>?_) (hs σ H p)
 cases b with
 | true=>exact ⟨_,λ σ' H' ⟨p',l⟩=>⟨_,l,rfl,p'⟩,q⟩
 | false=>exact q
end L2
namespace L2
open PySem PySem.Spec PyProof.Rows
noncomputable abbrev R2:=V->V->Hp->VK->Prop
noncomputable def OpR (X:Cx) (f:Value->Value->Sem Value) (r:R2):Prop:=
 ∀ (pins:List (Addr × Obj)) (s:Shared) (σ:St) (H:Hp) (x y:V) (v u:Value) (Q:VK),Inv X pins σ H s->RelV x v->RelV y u->r x y H Q->
  wpAny (model X.prog X.w) X.A (f v u) (EP X pins σ Q) X.xe s
noncomputable def UnR (X:Cx) (f:Value->Sem Value) (r:V->Hp->VK->Prop):Prop:=
 ∀ (pins:List (Addr × Obj)) (s:Shared) (σ:St) (H:Hp) (x:V) (v:Value) (Q:VK),Inv X pins σ H s->RelV x v->r x H Q->
  wpAny (model X.prog X.w) X.A (f v) (EP X pins σ Q) X.xe s
noncomputable def bS (X:Cx) (f:Value) (r:List V->Hp->VK->Prop):Prop:=
 ∀ (pins:List (Addr × Obj)) (s:Shared) (σ:St) (H:Hp) (xs:List V) (us:List Value) (Q:VK),Inv X pins σ H s->Vals xs us->r xs H Q->
  wpAny (model X.prog X.w) X.A (call f us) (EP X pins σ Q) X.xe s
noncomputable def tOp (r:R2) (ta tb:TE):TE:=λ σ H Q=>ta σ H λ x H1=>tb σ H1 λ y H2=>r x y H2 Q
noncomputable def tUn (r:V->Hp->VK->Prop) (ta:TE):TE:=λ σ H Q=>ta σ H λ x H1=>r x H1 Q
noncomputable def rI (C:Int->Int->Prop) (g:Int->Int->V):R2:=λ x y H Q=>∃ i j,x=.int i/\y=.int j/\C i j/\Q (g i j) H
inductive IrI0 (g:Int->Int->V) (x:V) (y:V) (H:Hp) (Q:VK):Prop
 | mk (i:_) (j:_) (h1:x=.int i) (h2:y=.int j) (h3:Q (g i j) H):IrI0 g x y H Q
noncomputable def rI0 (g:Int->Int->V):R2:=λ x y H Q=>IrI0 g x y H Q
inductive IrU (g:Int->V) (x:V) (H:Hp) (Q:VK):Prop
 | mk (i:_) (h1:x=.int i) (h2:Q (g i) H):IrU g x H Q
noncomputable def rU (g:Int->V):V->Hp->VK->Prop:=λ x H Q=>IrU g x H Q
section
variable {X:Cx} {a b c:Expr} {ta tb tc:TE} {pos:Pos}
theorem binT (ha:PE X a ta) (hb:PE X b tb) {pins:List (Addr × Obj)} {s:Shared} {σ:St} {H:Hp} {R:V->V->Hp->Prop} (I:Inv X pins σ H s)
  (h:ta σ H λ x H1=>tb σ H1 λ y H2=>R x y H2) {Q:Value->Shared->Prop} {f:Value->Value->Sem Value}
  (hf:∀ v u s2 x y H2,Inv X pins σ H2 s2->RelV x v->RelV y u->R x y H2->wpAny (model X.prog X.w) X.A (f v u) Q X.xe s2) :
  wpAny (model X.prog X.w) X.A (eval a X.env) (λ v s₁=>wpAny (model X.prog X.w) X.A (eval b X.env) (λ u s₂=>wpAny (model X.prog X.w) X.A (f v u) Q X.xe s₂) X.xe s₁) X.xe s:=by
 refine thn (ha pins s σ H _ I h) λ v s1 ⟨x,H1,I1,r1,q1⟩=>?_;refine thn (hb pins s1 σ H1 _ I1 q1) λ u s2 ⟨y,H2,I2,r2,q2⟩=>?_;exact hf v u s2 x y H2 I2 r1 r2 q2
theorem aA {op:Operator} {r:R2} (ho:OpR X (binaryOp op) r) (ha:PE X a ta) (hb:PE X b tb):PE X (.BinOp a op b pos) (tOp r ta tb):=by
 intro pins s σ H Q I h;exact wpAny_BinOp (binT ha hb I h λ v u s2 x y H2 I2 rx ry q=>ho pins s2 σ H2 x y v u Q I2 rx ry q)
theorem pe_un {op:UnaryOp} {r:V->Hp->VK->Prop} (ho:UnR X (unaryOp op) r) (ha:PE X a ta):PE X (.UnaryOp op a pos) (tUn r ta):=by
 intro pins s σ H Q I h;exact UnaryOp_ (thn (ha pins s σ H _ I h) λ v s1 ⟨x,H1,I1,r1,q1⟩=>ho pins s1 σ H1 x v Q I1 r1 q1)
theorem opI {f:Value->Value->Sem Value} {C:Int->Int->Prop} {g:Int->Int->Int}
  (rule:∀ (i j:Int) (t u:Tok) (s:Shared) (Q:Value->Shared->Prop) (E:Value->Shared->Prop),C i j->Q (.int (g i j) s.toks) { s with toks:=s.toks+1 }->wpAny (model X.prog X.w) X.A (f (.int i t) (.int j u)) Q E s) :
  OpR X f (rI C λ i j=>.int (g i j)):=by
 intro pins s σ H x y v u Q I rx ry h;obtain ⟨i,j,rfl,rfl,hc,q⟩:=h;obtain ⟨t,rfl⟩:=rx;obtain ⟨t',rfl⟩:=ry;exact rule i j t t' s _ _ hc ⟨.int (g i j),H,I.tok _,⟨_,rfl⟩,q⟩
theorem opI0 {f:Value->Value->Sem Value} {g:Int->Int->Int}
  (rule:∀ (i j:Int) (t u:Tok) (s:Shared) (Q:Value->Shared->Prop) (E:Value->Shared->Prop),Q (.int (g i j) s.toks) { s with toks:=s.toks+1 }->wpAny (model X.prog X.w) X.A (f (.int i t) (.int j u)) Q E s) :
  OpR X f (rI0 λ i j=>.int (g i j)):=by
 intro pins s σ H x y v u Q I rx ry h;obtain ⟨i,j,rfl,rfl,q⟩:=h;obtain ⟨t,rfl⟩:=rx;obtain ⟨t',rfl⟩:=ry;exact rule i j t t' s _ _ ⟨.int (g i j),H,I.tok _,⟨_,rfl⟩,q⟩
theorem opB0 {f:Value->Value->Sem Value} {g:Int->Int->Bool}
  (rule:∀ (i j:Int) (t u:Tok) (s:Shared) (Q:Value->Shared->Prop) (E:Value->Shared->Prop),Q (.bool (g i j)) s->wpAny (model X.prog X.w) X.A (f (.int i t) (.int j u)) Q E s) :
  OpR X f (rI0 λ i j=>.bl (g i j)):=by
 intro pins s σ H x y v u Q I rx ry h;obtain ⟨i,j,rfl,rfl,q⟩:=h;obtain ⟨t,rfl⟩:=rx;obtain ⟨t',rfl⟩:=ry;exact rule i j t t' s _ _ ⟨.bl (g i j),H,I,rfl,q⟩
noncomputable def CDiv (i j:Int):Prop:=0<j/\j<1073741824
noncomputable def CPow (i j:Int):Prop:=0<=j/\j<=1000000/\i.natAbs<2 ^ 64
theorem op_add:OpR X (binaryOp .Add) (rI0 λ i j=>.int (i+j)):=opI0 λ _ _ _ _ _ _ _ q=>add_int q
theorem op_sub:OpR X (binaryOp .Sub) (rI0 λ i j=>.int (i-j)):=opI0 λ _ _ _ _ _ _ _ q=>sub_int q
theorem d6:OpR X (binaryOp .FloorDiv) (rI CDiv λ i j=>.int (i / j)):=opI λ i j _ _ _ _ _ hc q=>by
 have h1:(0:Int)<j:=hc.1;have h2:j<1073741824:=hc.2;exact floordiv_int (by omega) (by rw [Int.fdiv_eq_ediv_of_nonneg i (by omega)];exact q) (.inl (PyProof.noPylong_small (by omega)))
theorem bo:OpR X (binaryOp .Mod) (rI (λ _ j=>0<j) λ i j=>.int (i % j)):=opI λ i j _ _ _ _ _ hc q=>by
 have h1:(0:Int)<j:=hc;exact mod_int' (by omega) (by rw [Int.fmod_eq_emod_of_nonneg i (by omega)];exact q)
theorem op_pow:OpR X (binaryOp .Pow) (rI CPow λ i j=>.int (i ^ j.toNat)):=opI λ _ _ _ _ _ _ _ hc q=>pow_int_small hc.1 hc.2.1 hc.2.2 q
theorem unI {f:Value->Sem Value} {g:Int->Int}
  (rule:∀ (i:Int) (t:Tok) (s:Shared) (Q:Value->Shared->Prop) (E:Value->Shared->Prop),Q (.int (g i) s.toks) { s with toks:=s.toks+1 }->wpAny (model X.prog X.w) X.A (f (.int i t)) Q E s) :
  UnR X f (rU λ i=>.int (g i)):=by
 intro pins s σ H x v Q I rx h;obtain ⟨i,rfl,q⟩:=h;obtain ⟨t,rfl⟩:=rx;exact rule i t s _ _ ⟨.int (g i),H,I.tok _,⟨_,rfl⟩,q⟩
theorem un_neg:UnR X (unaryOp .USub) (rU λ i=>.int (-i)):=unI λ _ _ _ _ _ q=>neg_int q
end
noncomputable def scal:V->V->Bool
 | .non,.non=>true | .non,.int _=>true | .int _,.non=>true | .non,.bl _=>true | .bl _,.non=>true | .non,.str _=>true | .str _,.non=>true
 | .int _,.int _=>true | .bl _,.bl _=>true | .str _,.str _=>true | .byt _,.byt _=>true
 | .int _,.str _=>true | .str _,.int _=>true | .bl _,.str _=>true | .str _,.bl _=>true
 | _,_=>false
noncomputable def rEq:R2:=λ x y H Q=>scal x y=true/\Q (.bl (decide (x=y))) H
noncomputable def rNe:R2:=λ x y H Q=>scal x y=true/\Q (.bl (!decide (x=y))) H
theorem dec_int {i j:Int}:decide (V.int i=V.int j)=(i == j):=by
 rw [Bool.eq_iff_iff];simp
theorem dec_bl {i j:Bool}:decide (V.bl i=V.bl j)=(i == j):=by
 rw [Bool.eq_iff_iff];simp
theorem dec_str {i j:Str}:decide (V.str i=V.str j)=(i == j):=by
 rw [Bool.eq_iff_iff];simp
theorem dec_byt {i j:Array UInt8}:decide (V.byt i=V.byt j)=(i.toList == j.toList):=by
 rw [Bool.eq_iff_iff]
 cases i
 cases j;simp
section
variable {X:Cx} {a b c:Expr} {ta tb tc:TE} {pos:Pos}
theorem aI {pins:List (Addr × Obj)} {σ:St} {H:Hp} {s:Shared} {Q:VK} {k k':Bool} (I:Inv X pins σ H s) (q:Q (.bl k) H) (e:k=k'):EP X pins σ Q (.bool k') s:=by
 subst e;exact ⟨.bl k,H,I,rfl,q⟩
theorem a8:OpR X (compareOp .Eq) rEq:=by
 intro pins s σ H x y v u Q I rx ry h;obtain ⟨hs,q⟩:=h
 cases x with
 | non=>
  cases rx
  cases y with
  | non=>cases ry;exact PySem.EqNone.eq_none_none (aI I q (by simp))
  | bl j=>cases ry;exact PySem.EqNone.eq_none_bool (aI I q (by simp))
  | int j=>obtain ⟨t',rfl⟩:=ry;exact PySem.EqNone.eq_none_int (aI I q (by simp))
  | str j=>obtain ⟨t',rfl⟩:=ry;exact PySem.EqNone.eq_none_str (aI I q (by simp))
  | _=>exact absurd (show false=true from hs) eO
 | bl i=>
  cases rx
  cases y with
  | non=>cases ry;exact PySem.EqNone.eq_bool_none (aI I q (by simp))
  | bl j=>cases ry;exact eq_bool (aI I q dec_bl)
  | str j=>obtain ⟨t',rfl⟩:=ry;exact PySem.EqMixed.eq_bool_str (aI I q (by simp))
  | _=>exact absurd (show false=true from hs) eO
 | int i=>
  obtain ⟨t,rfl⟩:=rx
  cases y with
  | non=>cases ry;exact PySem.EqNone.eq_int_none (aI I q (by simp))
  | int j=>obtain ⟨t',rfl⟩:=ry;exact eq_int (aI I q dec_int)
  | str j=>obtain ⟨t',rfl⟩:=ry;exact PySem.EqMixed.eq_int_str (aI I q (by simp))
  | _=>exact absurd (show false=true from hs) eO
 | str i=>
  obtain ⟨t,rfl⟩:=rx
  cases y with
  | non=>cases ry;exact PySem.EqNone.eq_str_none (aI I q (by simp))
  | bl j=>cases ry;exact PySem.EqMixed.eq_str_bool (aI I q (by simp))
  | int j=>obtain ⟨t',rfl⟩:=ry;exact PySem.EqMixed.eq_str_int (aI I q (by simp))
  | str j=>obtain ⟨t',rfl⟩:=ry;exact eq_str (aI I q dec_str)
  | _=>exact absurd (show false=true from hs) eO
 | byt i=>
  obtain ⟨t,rfl⟩:=rx
  cases y with
  | byt j=>obtain ⟨t',rfl⟩:=ry;exact PySem.W.eq_bytes (aI I q dec_byt)
  | _=>exact absurd (show false=true from hs) eO
 | _=>cases y <;> exact absurd (show false=true from hs) eO
theorem op_ne:OpR X (compareOp .NotEq) rNe:=by
 intro pins s σ H x y v u Q I rx ry h;obtain ⟨hs,q⟩:=h
 cases x with
 | non=>
  cases rx
  cases y with
  | non=>cases ry;exact PySem.EqNone.ne_none_none (aI I q (by simp))
  | bl j=>cases ry;exact PySem.EqNone.ne_none_bool (aI I q (by simp))
  | int j=>obtain ⟨t',rfl⟩:=ry;exact PySem.EqNone.ne_none_int (aI I q (by simp))
  | str j=>obtain ⟨t',rfl⟩:=ry;exact PySem.EqNone.ne_none_str (aI I q (by simp))
  | _=>exact absurd (show false=true from hs) eO
 | bl i=>
  cases rx
  cases y with
  | non=>cases ry;exact PySem.EqNone.ne_bool_none (aI I q (by simp))
  | bl j=>cases ry;exact ne_bool (aI I q (fv not dec_bl))
  | str j=>obtain ⟨t',rfl⟩:=ry;exact PySem.EqMixed.ne_bool_str (aI I q (by simp))
  | _=>exact absurd (show false=true from hs) eO
 | int i=>
  obtain ⟨t,rfl⟩:=rx
  cases y with
  | non=>cases ry;exact PySem.EqNone.ne_int_none (aI I q (by simp))
  | int j=>obtain ⟨t',rfl⟩:=ry;exact ne_int (aI I q (fv not dec_int))
  | str j=>obtain ⟨t',rfl⟩:=ry;exact PySem.EqMixed.ne_int_str (aI I q (by simp))
  | _=>exact absurd (show false=true from hs) eO
 | str i=>
  obtain ⟨t,rfl⟩:=rx
  cases y with
  | non=>cases ry;exact PySem.EqNone.ne_str_none (aI I q (by simp))
  | bl j=>cases ry;exact PySem.EqMixed.ne_str_bool (aI I q (by simp))
  | int j=>obtain ⟨t',rfl⟩:=ry;exact PySem.EqMixed.ne_str_int (aI I q (by simp))
  | str j=>obtain ⟨t',rfl⟩:=ry;exact ne_str (aI I q (fv not dec_str))
  | _=>exact absurd (show false=true from hs) eO
 | byt i=>
  obtain ⟨t,rfl⟩:=rx
  cases y with
  | byt j=>obtain ⟨t',rfl⟩:=ry;exact PySem.W.ne_bytes (aI I q (fv not dec_byt))
  | _=>exact absurd (show false=true from hs) eO
 | _=>cases y <;> exact absurd (show false=true from hs) eO
theorem op_lt:OpR X (compareOp .Lt) (rI0 λ i j=>.bl (decide (i<j))):=opB0 λ _ _ _ _ _ _ _ q=>lt_int q
theorem op_le:OpR X (compareOp .LtE) (rI0 λ i j=>.bl (decide (i<=j))):=opB0 λ _ _ _ _ _ _ _ q=>le_int q
theorem op_gt:OpR X (compareOp .Gt) (rI0 λ i j=>.bl (decide (j<i))):=opB0 λ _ _ _ _ _ _ _ q=>gt_int q
theorem op_in_str:OpR X (compareOp .In) (λ x y H Q=>∃ i j,x=.str i/\y=.str j/\Q (.bl (!(Builtin.Str.occurrences j i 0 j.length 1).isEmpty)) H):=by
 intro pins s σ H x y v u Q I rx ry h;obtain ⟨i,j,rfl,rfl,q⟩:=h;obtain ⟨t,rfl⟩:=rx;obtain ⟨t',rfl⟩:=ry;exact in_str (aI I q rfl)
theorem op_isN:OpR X (compareOp .Is) (λ x y H Q=>y=.non/\Q (.bl (decide (x=.non))) H):=by
 intro pins s σ H x y v u Q I rx ry h;obtain ⟨rfl,q⟩:=h
 cases ry;refine is_none_gen (aI I q ?_)
 cases x <;> first
  | (cases rx;rfl)
  | (obtain ⟨t,rfl⟩:=rx;rfl)
theorem op_notN:OpR X (compareOp .IsNot) (λ x y H Q=>y=.non/\Q (.bl (!decide (x=.non))) H):=by
 intro pins s σ H x y v u Q I rx ry h;obtain ⟨rfl,q⟩:=h
 cases ry;refine isnot_none_gen (aI I q ?_)
 cases x <;> first
  | (cases rx;rfl)
  | (obtain ⟨t,rfl⟩:=rx;rfl)
theorem aw (b:Expr) {op:CmpOp} (h:op≠.In:=by decide) (h2:op≠.NotIn:=by decide):behindInMarks op b=false:=by
 have e1:(op == CmpOp.In)=false:=by cases op <;> first | rfl | exact absurd rfl h
 have e2:(op == CmpOp.NotIn)=false:=by cases op <;> first | rfl | exact absurd rfl h2
 cases b <;> simp [behindInMarks,e1,e2]
theorem cm {op:CmpOp} {r:R2} (ho:OpR X (compareOp op) r) (ha:PE X a ta) (hb:PE X b tb) (hm:behindInMarks op b=false):PE X (.Compare a [op] [b] pos) (tOp r ta tb):=by
 intro pins s σ H Q I h;exact wpAny_Compare1 (binT ha hb I h λ v u s2 x y H2 I2 rx ry q=>ho pins s2 σ H2 x y v u Q I2 rx ry q) hm
inductive ItTest (Q:Bool->Hp->Prop) (x:V) (H':Hp):Prop
 | mk (k:_) (h1:x=.bl k) (h2:Q k H'):ItTest Q x H'
noncomputable def tTest (t:TE):TT:=λ σ H Q=>t σ H λ x H'=>ItTest Q x H'
theorem aq {op:CmpOp} {r:R2} (ho:OpR X (compareOp op) r) (ha:PE X a ta) (hb:PE X b tb) (hm:behindInMarks op b=false):PT X (.Compare a [op] [b] pos) (tTest (tOp r ta tb)):=by
 intro pins s σ H Q I h
 refine wpAny_isTrue_Compare1 (thn (ha pins s σ H _ I h) λ v s1 ⟨x,H1,I1,r1,q1⟩=>thn (hb pins s1 σ H1 _ I1 q1) λ u s2 ⟨y,H2,I2,r2,q2⟩=>
  thn (ho pins s2 σ H2 x y v u _ I2 r1 r2 q2) λ c s3 ⟨z,H3,I3,r3,k,e,q3⟩=>?_) hm
 subst e
 cases r3;exact wpAny_truthy_bool ⟨H3,I3,q3⟩
noncomputable def tChain (r r':R2) (ta tb tc:TE):TE:=λ σ H Q=>ta σ H λ x H1=>tb σ H1 λ y H2=>r x y H2 λ z H3=>∃ k,z=.bl k/\
 (if k=true then tc σ H3 λ w' H4=>r' y w' H4 Q else Q (.bl false) H3)
theorem pe_chain {op op':CmpOp} {r r':R2} (ho:OpR X (compareOp op) r) (ho':OpR X (compareOp op') r') (ha:PE X a ta) (hb:PE X b tb) (hc:PE X c tc)
  (hm:lastMarks [op,op'] [b,c]=false:=by with_unfolding_all rfl):PE X (.Compare a [op,op'] [b,c] pos) (tChain r r' ta tb tc):=by
 intro pins s σ H Q I h
 refine Compare_chain (thn (ha pins s σ H _ I h) λ v s1 ⟨x,H1,I1,r1,q1⟩=>chain_link (thn (hb pins s1 σ H1 _ I1 q1) λ u s2 ⟨y,H2,I2,r2,q2⟩=>
  thn (ho pins s2 σ H2 x y v u _ I2 r1 r2 q2) λ d s3 ⟨z,H3,I3,r3,k,e,q3⟩=>?_)) hm
 subst e
 cases r3;refine wpAny_truthy_bool ?_
 cases k with
 | false=>exact ite_ff ⟨.bl false,H3,I3,rfl,q3⟩
 | true=>exact ite_tt (chain_last (thn (hc pins s3 σ H3 _ I3 q3) λ w' s4 ⟨z',H4,I4,r4,q4⟩=>ho' pins s4 σ H4 y z' u w' Q I4 r2 r4 q4))
theorem line63:(sizeLine:Nat)<2 ^ 63:=by rw [sizeLine_eq];decide
theorem ax:OpR X (binaryOp .Add) (λ x y H Q=>∃ i j,x=.str i/\y=.str j/\i.length+j.length<=sizeLine/\Q (.str (i++j)) H):=by
 intro pins s σ H x y v u Q I rx ry h;obtain ⟨i,j,rfl,rfl,hz,q⟩:=h;obtain ⟨t,rfl⟩:=rx;obtain ⟨t',rfl⟩:=ry;exact add_str (λ t' tk=>⟨.str (i++j),H,I.tok _,⟨_,rfl⟩,q⟩) hz
theorem cQ {x:V} {us:List Value} (r:Vals [x] us):∃ u,us=[u]/\RelV x u:=by
 cases r with
 | cons r1 r2=>cases r2;exact ⟨_,rfl,r1⟩
theorem call_abs:bS X (.builtin "abs") (λ xs H Q=>∃ i,xs=[.int i]/\Q (.int (if i<0 then -i else i)) H):=by
 intro pins s σ H xs us Q I r h;obtain ⟨i,rfl,q⟩:=h;obtain ⟨u,rfl,t,rfl⟩:=cQ r;exact call_abs_int λ u tk=>⟨.int (if i<0 then -i else i),H,I.tok _,⟨_,rfl⟩,q⟩
theorem bh:bS X (.type "str") (λ xs H Q=>∃ i,xs=[.int i]/\i.natAbs.log2<1920/\Q (.str (toString i)) H):=by
 intro pins s σ H xs us Q I r h;obtain ⟨i,rfl,hz,q⟩:=h;obtain ⟨u,rfl,t,rfl⟩:=cQ r;exact PySem.P.str_of_int hz ⟨.str _,H,I.tok _,⟨_,rfl⟩,q⟩
end
end L2
namespace L2
open PySem PySem.Spec PyProof.Rows
structure ObjM (h:Heap) (x dx C:Addr) (mA:Str->Option Value):Prop where
 obj:h.get? x=some (PySem.W.instObj C dx)
 ns:h.Ns1 dx mA
 ne:dx≠x
theorem lookIn_ns {h:Heap} {dx:Addr} {mA:Str->Option Value} (n:h.Ns1 dx mA):∃ od,h.get? dx=some od/\∀ name,PySem.W.lookIn name od=some (mA name):=by
 obtain ⟨o,es,ep,ho,hd,hk,_,hm⟩:=n;refine ⟨o,ho,λ name=>?_⟩;have e:=hm name;unfold nsFind findBy at e;rw [<- Array.find?_toList] at e;unfold PySem.W.lookIn;rw [hd];dsimp only
 split
 ·rename_i y q;rw [q] at e;exact fv some e
 ·rename_i q;rw [q] at e
  have a:es.toList.any (·.refKey)=false:=by
   rw [List.any_eq_false];intro y hy;obtain ⟨z,t,hkey⟩:=hk y (Array.mem_toList_iff.mp hy);simp [DictEntry.refKey,hkey]
  have a':¬ es.toList.any (·.refKey)=true:=by rw [a];exact eO
  rw [if_neg a'];exact fv some e
theorem ObjM.look {h:Heap} {x dx C:Addr} {mA:Str->Option Value} (I:ObjM h x dx C mA):∃ od,PySem.W.InstAt h x (PySem.W.instObj C dx) C (some od)/\∀ name,PySem.W.lookIn name od=some (mA name):=
 let ⟨od,ho,hl⟩:=lookIn_ns I.ns
 ⟨od,⟨I.obj,rfl,rfl,ho⟩,hl⟩
section
variable {prog:Program} {w:World} {A:Around} {E:Value->Shared->Prop} {s:Shared} {K:W.Frag} {x dx C f:Addr} {mA:Str->Option Value} {name:Str} {v:Value}
theorem get_map {expr:Bool} {Q:Value->Shared->Prop} (X:K.In s.heap) (I:ObjM s.heap x dx C mA) (hg:PySem.W.plainGet K C name=true) (hh:PySem.W.hasDictIn K C=true)
  (ha:PySem.W.findIn K (.ref C) name=some none) (hv:mA name=some v) (hv':PySem.W.handedIn v=true) (h:Q v { s with toks:=s.toks+1 }) :
  wpAny (model prog w) A (getAttr (.ref x) name expr) Q E s:=by
 obtain ⟨od,J,hl⟩:=I.look;exact PySem.W.get_value X J (PySem.W.plainGet_of hg).1 (PySem.W.findObj_own hh ha rfl (by rw [hl,hv])) hv' h
theorem get_meth {pl:Sem Bool} {Q:Value × List Value->Shared->Prop} (X:K.In s.heap) (I:ObjM s.heap x dx C mA) (hg:PySem.W.plainGet K C name=true)
  (hf:PySem.W.findIn K (.ref C) name=some (some (.ref f))) (ht:PySem.W.isFn K (.ref f)=true) (hv:mA name=none) (h:Q (.ref f,[.ref x]) s) :
  wpAny (model prog w) A (getMethod (.ref x) name pl) Q E s:=by
 obtain ⟨od,J,hl⟩:=I.look;exact PySem.W.method_fn X J (PySem.W.plainGet_of hg).1 (PySem.W.plainGet_of hg).2 hf (beq_iff_eq.mp ht) (by show (PySem.W.lookIn name od).map (·.isSome)=some false;rw [hl,hv];rfl) h
theorem set_map {ns:List Str} {Q:Unit->Shared->Prop} (X:K.In s.heap) (I:ObjM s.heap x dx C mA)
  (hs:PySem.W.findIn K (.ref C) "__setattr__"=some (some (.builtin "object.__setattr__"))) (hp:PySem.W.plainOver K C=true) (ht:PySem.W.takerIn K C name=some none) (hh:PySem.W.hasDictIn K C=true)
  (hw:PySem.Within mA ns) (hsz:ns.length<=sizeLine)
  (h:∀ h',ObjM h' x dx C (λ y=>if y=name then some v else mA y)->Heap.SameBut dx s.heap h'->Q () { s with heap:=h',toks:=s.toks+2 }) :
  wpAny (model prog w) A (setAttr (.ref x) name v) Q E s:=by
 obtain ⟨od,J,hl⟩:=I.look;refine PySem.W.set_plain X J hs (PySem.W.osa_open (s:={ s with toks:=s.toks+1 }) (r:=none) X J hp ht λ b=>?_);obtain ⟨cd,hc,hd'⟩:=PySem.W.any_some hh;have hx:s.heap.get? x=some ⟨.ref C,some dx,.plain,#[]⟩:=I.obj;refine eo (eJ (eo (eo (wpAny_loadPart hx (eo (PySem.W.Looks.here (s:={ s with toks:=s.toks+1 }) (PySem.W.looks_clsIn X hc) ?_))))));rw [hd'];refine eJ (a:=some dx) (eo (eJ (eo ?_)));refine wpAny_nsSet1 (s:={ s with toks:=s.toks+1 }) I.ns λ h' hn2 hs2=>?_;obtain ⟨oD,esD,epD,hoD,hdD,hcD⟩:=hn2.count (PySem.Within.cons name v hw);refine eo (wpAny_lookBehind hoD (by rw [hdD];exact pastItsLine_dict (eQ hcD (by rw [eV];omega))) ?_);exact eJ (h _ ⟨(hs2.2 _ (Ne.symm I.ne)).trans I.obj,hn2,I.ne⟩ hs2)
theorem make_map {R:Result->Shared->Prop} {vs:List Value} {kw:List (Str × Value)} (X:K.In s.heap) (hm:PySem.W.makesIn K C=true)
  (hi:PySem.W.findIn K (.ref C) "__init__"=some (some (.ref f))) (hf:PySem.W.typeIn K (.ref f)=some (.type "function"))
  (h:codeAny (model prog w) (A.under (.builtin "type.__call__" ⟨.ref C::vs,kw⟩)) (.call (.ref f) ⟨.ref (s.heap.objs.size+1)::vs,kw⟩) (PySem.W.InitBack (s.heap.objs.size+1) R)
   { s with heap:=(s.heap.push PySem.W.emptyDict).push (PySem.W.instObj C s.heap.objs.size) }) :
  codeAny (model prog w) A (.call (.ref C) ⟨vs,kw⟩) R s:=by
 obtain ⟨hh,g,d,t,os⟩:=s;exact PySem.W.make_core (PySem.W.makes_of X hm) (PySem.W.looks_findIn X hi) (λ self=>PySem.W.bind_fn X self hf) (.inl rfl) h
end
noncomputable def aF (f:Str) (v:V):List (Str × V)->List (Str × V)
 | []=>[(f,v)]
 | (g,x)::r=>if g=f then (g,v)::r else (g,x)::aF f v r
theorem bQ (f g:Str) (v:V):∀ fs:List (Str × V),(aF f v fs).lookup g=if g=f then some v else fs.lookup g
 | []=>by
  show List.lookup g [(f,v)]=_;by_cases h:g=f
  ·have hb:(g == f)=true:=beq_iff_eq.mpr h;simp only [List.lookup,hb,if_pos h]
  ·have hb:(g == f)=false:=fM.mpr h;simp only [List.lookup,hb,if_neg h]
 | (k,x)::r=>by
  have ih:=bQ f g v r;rw [show aF f v ((k,x)::r)=(if k=f then (k,v)::r else (k,x)::aF f v r) from rfl];by_cases hk:k=f
  ·rw [if_pos hk];by_cases h:g=k
   ·have hb:(g == k)=true:=beq_iff_eq.mpr h;simp only [List.lookup,hb,if_pos (h.trans hk)]
   ·have hb:(g == k)=false:=fM.mpr h;simp only [List.lookup,hb,if_neg (λ e:g=f=>h (e.trans hk.symm))]
  ·rw [if_neg hk];by_cases h:g=k
   ·have hb:(g == k)=true:=beq_iff_eq.mpr h;simp only [List.lookup,hb,if_neg (λ e:g=f=>hk (h.symm.trans e))]
   ·have hb:(g == k)=false:=fM.mpr h;simp only [List.lookup,hb];exact ih
theorem keys_putF (f:Str) (v:V):∀ fs:List (Str × V),f∈(aF f v fs).map (·.1)/\∀ g,g∈fs.map (·.1)->g∈(aF f v fs).map (·.1)
 | []=>⟨by simp [aF],λ g h=>by simp at h⟩
 | (k,x)::r=>by
  obtain ⟨i1,i2⟩:=keys_putF f v r;rw [show aF f v ((k,x)::r)=(if k=f then (k,v)::r else (k,x)::aF f v r) from rfl];by_cases hk:k=f
  ·rw [if_pos hk];subst hk;exact ⟨by simp,λ g h=>by simpa using h⟩
  ·rw [if_neg hk];refine ⟨?_,λ g h=>?_⟩
   ·rw [fz];exact eW _ i1
   ·rw [fz] at h ⊢;rcases eT.mp h with e | e
    ·exact eT.mpr (.inl e)
    ·exact eW _ (i2 g e)
theorem bc (f:Str) (v:V):∀ fs:List (Str × V),(aF f v fs).length<=fs.length+1
 | []=>by simp [aF]
 | (k,x)::r=>by
  have ih:=bc f v r;rw [show aF f v ((k,x)::r)=(if k=f then (k,v)::r else (k,x)::aF f v r) from rfl];by_cases hk:k=f
  ·rw [if_pos hk,eV,eV];omega
  ·rw [if_neg hk,eV,eV];omega
theorem RelO.some_of {v:V} {o:Option Value} (r:RelO (some v) o):∃ u,o=some u/\RelV v u:=by
 cases o with
 | none=>exact (show False from r).elim
 | some u=>exact ⟨u,rfl,r⟩
theorem RelO.none_of {o:Option Value} (r:RelO none o):o=none:=by
 cases o with
 | none=>rfl
 | some u=>exact (show False from r).elim
theorem handed_of {v:V} {u:Value} (r:RelV v u):PySem.W.handedIn u=true:=by
 cases v with
 | non=>cases (show u=Value.none from r);rfl
 | bl b=>cases (show u=Value.bool b from r);rfl
 | int i=>obtain ⟨t,e⟩:=(show ∃ t,u=Value.int i t from r);cases e;rfl
 | str x=>obtain ⟨t,e⟩:=(show ∃ t,u=Value.str x t from r);cases e;rfl
 | byt b=>obtain ⟨t,e⟩:=(show ∃ t,u=Value.bytes b t from r);cases e;rfl
 | flt b=>obtain ⟨t,e⟩:=(show ∃ t,u=Value.float b t from r);cases e;rfl
 | ref a=>cases (show u=Value.ref a from r);rfl
 | ty n=>cases (show u=Value.type n from r);rfl
section
variable {P:Program} {w:World} {H H':Hp} {h h':Heap} {a C dx:Addr} {fs fs':List (Str × V)}
theorem ins_get (hok:HOk P w H h) (e:H a=some (.ins C dx fs)):∃ mA,ObjM h a dx C mA/\(∀ f,RelO (fs.lookup f) (mA f))/\PySem.Within mA (fs.map (·.1))/\fs.length<=1000/\H dx=some (.own a):=by
 obtain ⟨d,z,ne,ob,mA,n,r,q⟩:=(show ObjOk P w H h a (.ins C dx fs) from hok a _ e);exact ⟨mA,⟨ob,n,ne⟩,r,q,z,d⟩
end
structure Cls (K:W.Frag) (C:Addr):Prop where
 pg:PySem.W.plainGet K C Str.empty=true
 hd:PySem.W.hasDictIn K C=true
 po:PySem.W.plainOver K C=true
 sa:PySem.W.findIn K (.ref C) "__setattr__"=some (some (.builtin "object.__setattr__"))
theorem Cls.get {K:W.Frag} {C:Addr} (c:Cls K C) (f:Str):PySem.W.plainGet K C f=true:=c.pg
noncomputable def NoAttr (K:W.Frag) (C:Addr) (f:Str):Prop:=PySem.W.findIn K (.ref C) f=some none
theorem NoAttr.taker {K:W.Frag} {C:Addr} {f:Str} (n:NoAttr K C f):PySem.W.takerIn K C f=some none:=by
 unfold PySem.W.takerIn;rw [show PySem.W.findIn K (.ref C) f=some none from n];rfl
structure Con (K:W.Frag) (C:Addr) (f:Str) (v:V) (u:Value):Prop where
 at_:PySem.W.findIn K (.ref C) f=some (some u)
 rel:RelV v u
 get:PySem.W.specialIn K u "__get__"=some none
 cp:PySem.W.copiedNames.contains f=false
structure Meth (K:W.Frag) (C:Addr) (m:Str) (f:Addr):Prop where
 at_:PySem.W.findIn K (.ref C) m=some (some (.ref f))
 fn:PySem.W.isFn K (.ref f)=true
 kp:PySem.W.keepIn K (.ref f)=true
section
variable {X:Cx} {pins:List (Addr × Obj)} {σ:St} {H:Hp} {s:Shared} {a C dx:Addr} {fs:List (Str × V)} {f:Str} {v:V} {A:Around} {E:Value->Shared->Prop}
theorem dJ {b:Bool} {Q:Value->Shared->Prop} (I:Inv X pins σ H s) (e:H a=some (.ins C dx fs)) (c:Cls X.K C) (n:NoAttr X.K C f) (l:fs.lookup f=some v)
  (h:∀ u s',Inv X pins σ H s'->RelV v u->Q u s'):wpAny (model X.prog X.w) A (getAttr (.ref a) f b) Q E s:=by
 obtain ⟨mA,O,r,_,_,_⟩:=ins_get I.hok e;obtain ⟨u,hu,ru⟩:=RelO.some_of (v:=v) (o:=mA f) (by rw [<- l];exact r f);exact get_map I.kIn O (c.get f) c.hd n hu (handed_of ru) (h u _ (I.tok _) ru)
theorem cG {m:Str} {g:Addr} {pl:Sem Bool} {Q:Value × List Value->Shared->Prop} (I:Inv X pins σ H s) (e:H a=some (.ins C dx fs)) (c:Cls X.K C) (k:Meth X.K C m g) (l:fs.lookup m=none)
  (h:Q (.ref g,[.ref a]) s):wpAny (model X.prog X.w) A (getMethod (.ref a) m pl) Q E s:=by
 obtain ⟨mA,O,r,_,_,_⟩:=ins_get I.hok e;have hn:mA m=none:=RelO.none_of (by rw [<- l];exact r m);exact get_meth I.kIn O (c.get m) k.at_ k.fn hn h
theorem setattr_ok {y:V} {u:Value} {Q:Unit->Shared->Prop} (I:Inv X pins σ H s) (e:H a=some (.ins C dx fs)) (c:Cls X.K C) (n:NoAttr X.K C f) (hl:fs.length<1000) (ry:RelV y u)
  (h:∀ s',Inv X pins σ (upd H a (.ins C dx (aF f y fs))) s'->Q () s'):wpAny (model X.prog X.w) A (setAttr (.ref a) f u) Q E s:=by
 obtain ⟨mA,O,r,wi,_,ho⟩:=ins_get I.hok e;have hz:(fs.map (·.1)).length<=sizeLine:=by rw [eB,sizeLine_eq];omega
 refine set_map I.kIn O c.sa c.po n.taker c.hd wi hz λ h' O' sb=>h _ ?_;have hd:∃ o,h'.get? dx=some o:=let ⟨o,_,_,e',_⟩:=O'.ns;⟨o,e'⟩
 refine I.write (x:=a) (e:=dx) (by rw [e];exact True.intro) (.inr ho) (λ b q hb z=>(sb.2 b hb).trans z) hd ?_;refine ⟨by rw [ag O.ne];exact ho,?_,O.ne,O'.obj,_,O'.ns,λ g=>?_,λ g hg=>?_⟩
 ·have:=bc f y fs;omega
 ·show RelO ((aF f y fs).lookup g) (if g=f then some u else mA g);rw [bQ];by_cases q:g=f
  ·rw [if_pos q,if_pos q];exact ry
  ·rw [if_neg q,if_neg q];exact r g
 ·by_cases q:g=f
  ·rw [q];exact (keys_putF f y fs).1
  ·refine (keys_putF f y fs).2 g (wi g λ z=>hg ?_);show (if g=f then some u else mA g)=none;rw [if_neg q];exact z
theorem Inv.made (I:Inv X pins σ H s):Inv X pins σ (upd (upd H s.heap.objs.size (.own (s.heap.objs.size+1))) (s.heap.objs.size+1) (.ins C s.heap.objs.size []))
  { s with heap:=(s.heap.push PySem.W.emptyDict).push (PySem.W.instObj C s.heap.objs.size) }:=by
 have e1:(s.heap.push PySem.W.emptyDict).get? s.heap.objs.size=some PySem.W.emptyDict:=eM s.heap rfl
 have e2:((s.heap.push PySem.W.emptyDict).push (PySem.W.instObj C s.heap.objs.size)).get? (s.heap.objs.size+1)=some (PySem.W.instObj C s.heap.objs.size):=by
  have:=eM (s.heap.push PySem.W.emptyDict) (o:=PySem.W.instObj C s.heap.objs.size) rfl
  rwa [Heap.size_push] at this
 have e3:(s.heap.push PySem.W.emptyDict).Ns s.heap.objs.size (λ _=>none):=⟨PySem.W.emptyDict,#[],_,e1,rfl,(λ e he=>absurd he (by simp)),λ _=>rfl⟩;have I1:=I.laid (a:=s.heap.objs.size) (o:=.own (s.heap.objs.size+1)) (h':=s.heap.push PySem.W.emptyDict) (t':=s.toks) (λ b u q=>eA _ q) (eC _) ⟨_,e1⟩;refine I1.laid (a:=s.heap.objs.size+1) (o:=.ins C s.heap.objs.size []) (t':=s.toks) (λ b u q=>eA _ q) (Nat.le_of_eq (Heap.size_push _ _)) ?_;have ne:s.heap.objs.size≠s.heap.objs.size+1:=fg (Nat.lt_succ_self _);refine ⟨by rw [ag ne,ac],fP _,ne,e2,λ _=>none,(Heap.Ns1.of_empty e3).at λ o q=>eA _ q,λ _=>True.intro,λ y hy=>absurd rfl hy⟩
theorem attr_of {prog:Program} {w:World} {env:Env} {e:Expr} {f:Str} {pos:Pos} {s:Shared} {Q:Value->Shared->Prop} (hb:attributeBase e f env (eval e env)=eval e env)
  (h:wpAny (model prog w) A (eval e env) (λ o s₁=>wpAny (model prog w) A (getAttr o f true) Q E s₁) E s):wpAny (model prog w) A (eval (.Attribute e f pos) env) Q E s:=
 Attribute_any_ h (by rw [arm_eval_Attribute,hb])
end
inductive ItFld (K:W.Frag) (f:Str) (Q:VK) (x:V) (H1:Hp):Prop
 | mk (a:_) (C:_) (dx:_) (fs:_) (v:_) (h1:x=.ref a) (h2:H1 a=some (.ins C dx fs)) (h3:Cls K C) (h4:NoAttr K C f) (h5:fs.lookup f=some v) (h6:Q v H1):ItFld K f Q x H1
noncomputable def tFld (K:W.Frag) (ta:TE) (f:Str):TE:=λ σ H Q=>ta σ H λ x H1=>ItFld K f Q x H1
noncomputable def sFld (K:W.Frag) (ta tv:TE) (f:Str):TS:=λ D σ H=>tv σ H λ y H1=>ta σ H1 λ x H2=>∃ a C dx fs,x=.ref a/\H2 a=some (.ins C dx fs)/\Cls K C/\NoAttr K C f/\fs.length<1000/\
 D.nx σ (upd H2 a (.ins C dx (aF f y fs)))
section
variable {X:Cx} {o e value:Expr} {f:Str} {pos pos' tpos:Pos} {ta tv:TE}
theorem aP (he:PE X e ta) (hb:attributeBase e f X.env (eval e X.env)=eval e X.env):PE X (.Attribute e f pos) (tFld X.K ta f):=by
 intro pins s σ H Q I h;refine attr_of hb (thn (he pins s σ H _ I h) λ u s1 ⟨x,H1,I1,rx,a,C,dx,fs,v,ex,ea,c,n,l,q⟩=>?_);subst ex;obtain rfl:u=Value.ref a:=rx;exact dJ I1 ea c n l λ u' s2 I2 ru=>⟨v,H1,I2,ru,q⟩
theorem bn (ha:PE X o ta) (hv:PE X value tv) (hs:swapsWith value (some (.Attribute o f pos')) pos.line X.env=pure false):PS X (.Assign [.Attribute o f pos'] value pos) (sFld X.K ta tv f):=by
 intro pins s σ H D I h;refine plainObj_wpAny_Assign_Attribute (thn (hv pins s σ H _ I h) λ u s1 ⟨y,H1,I1,ry,q⟩=>thn (ha pins s1 σ H1 _ I1 q) λ ov s2 ⟨x,H2,I2,rx,a,C,dx,fs,ex,ea,c,n,l,q2⟩=>?_) hs;subst ex;obtain rfl:ov=Value.ref a:=rx;exact setattr_ok I2 ea c n l ry λ s3 I3=>⟨σ,_,I3,q2⟩
end
section
variable {X:Cx} {pins:List (Addr × Obj)} {σ:St} {H:Hp} {s:Shared} {A:Around} {E:Value->Shared->Prop} {Q:Value->Shared->Prop} {c:Value} {b:Bool}
inductive TyOf (K:W.Frag) (H:Hp):V->Value->Prop where
 | non:TyOf K H .non (.type "NoneType")
 | bl (x:Bool):TyOf K H (.bl x) (.type "bool")
 | int (i:Int):TyOf K H (.int i) (.type "int")
 | str (x:Str):TyOf K H (.str x) (.type "str")
 | flt (x:UInt64):TyOf K H (.flt x) (.type "float")
 | lst {a:Addr} {xs:List V} (e:H a=some (.lst xs)):TyOf K H (.ref a) (.type "list")
 | frz {a:Addr} {o:Obj} {xs:List V} (e:H a=some (.frz o (.lst xs))):TyOf K H (.ref a) (.type "list")
 | tup {a:Addr} {xs:List V} (e:H a=some (.tup xs)):TyOf K H (.ref a) (.type "tuple")
 | dK {a:Addr} {kvs:List (Key × V)} (e:H a=some (.dK kvs)):TyOf K H (.ref a) (.type "dict")
 | dT {a:Addr} {kvs:List (List Key × V)} (e:H a=some (.dT kvs)):TyOf K H (.ref a) (.type "dict")
 | ins {a C dx:Addr} {fs:List (Str × V)} (e:H a=some (.ins C dx fs)) (cl:Cls K C) (ha:PySem.W.findIn K (.ref C) "__class__"=some (some (.builtin "object.__class__")))
   (hn:PySem.W.specialIn K (.builtin "object.__class__") "__get__"=some (some (.builtin "getset_descriptor.__get__"))) (htk:PySem.W.takesIn K (.builtin "object.__class__")=some true)
   (hm:PySem.W.mroIn K C (.type "object")=some true):TyOf K H (.ref a) (.ref C)
theorem isinst_ok {x:V} {u t:Value} (I:Inv X pins σ H s) (rx:RelV x u) (ty:TyOf X.K H x t) (e:PySem.W.kitOne X.K t c=some b) (h:∀ tk,Q (.bool b) { s with toks:=tk }) :
  wpAny (model X.prog X.w) A (call (.builtin "isinstance") [u,c]) Q E s:=by
 cases ty with
 | non=>cases (show u=Value.none from rx);exact fu PySem.W.kitx_none I.kIn True.intro e (λ z=>nomatch z) h
 | bl y=>cases (show u=Value.bool y from rx);exact fu PySem.W.kitx_bool I.kIn True.intro e (λ z=>nomatch z) h
 | int i=>obtain ⟨t,q⟩:=(show ∃ t,u=Value.int i t from rx);cases q;exact fu PySem.W.kitx_int I.kIn True.intro e (λ z=>nomatch z) h
 | str y=>obtain ⟨t,q⟩:=(show ∃ t,u=Value.str y t from rx);cases q;exact fu PySem.W.kitx_str I.kIn True.intro e (λ z=>nomatch z) h
 | flt y=>obtain ⟨t,q⟩:=(show ∃ t,u=Value.float y t from rx);cases q;exact fu PySem.W.kitx_float I.kIn True.intro e (λ z=>nomatch z) h
 | @lst a xs ea=>
  cases (show u=Value.ref a from rx);obtain ⟨_,_,n,_,h1⟩:=(show ObjOk X.prog X.w H s.heap a (.lst xs) from I.hok a _ ea);exact fu PySem.W.kitx_list I.kIn ⟨_,h1,rfl⟩ e (λ z=>nomatch z) h
 | @frz a ob xs ea=>
  cases (show u=Value.ref a from rx);obtain ⟨_,_,_,n,_,h1⟩:=(show ObjOk X.prog X.w H s.heap a (.frz ob (.lst xs)) from I.hok a _ ea);exact fu PySem.W.kitx_list I.kIn ⟨_,h1,rfl⟩ e (λ z=>nomatch z) h
 | @tup a xs ea=>
  cases (show u=Value.ref a from rx);obtain ⟨_,_,_,p⟩:=(show ObjOk X.prog X.w H s.heap a (.tup xs) from I.hok a _ ea);obtain ⟨o,h1,h2,_⟩:=p;exact fu PySem.W.kitx_tuple I.kIn ⟨o,h1,h2⟩ e (λ z=>nomatch z) h
 | @dK a kvs ea=>
  cases (show u=Value.ref a from rx);obtain ⟨_,_,vs,_,p⟩:=(show ObjOk X.prog X.w H s.heap a (.dK kvs) from I.hok a _ ea);obtain ⟨o,es,ep,h1,h2,_⟩:=p;exact fu PySem.W.kitx_dict I.kIn ⟨o,h1,h2.1⟩ e (λ z=>nomatch z) h
 | @dT a kvs ea=>
  cases (show u=Value.ref a from rx);obtain ⟨_,_,xs,_,o,es,ep,h1,h2,_⟩:=(show ObjOk X.prog X.w H s.heap a (.dT kvs) from I.hok a _ ea);exact fu PySem.W.kitx_dict I.kIn ⟨o,h1,h2.1⟩ e (λ z=>nomatch z) h
 | @ins a C dx fs ea cl ha hn htk hm=>
  cases (show u=Value.ref a from rx);obtain ⟨mA,O,_⟩:=ins_get I.hok ea;obtain ⟨od,J,_⟩:=O.look;exact fu (PySem.W.kitx_own (cl.get _) cl.hd ha hn htk hm) I.kIn J e (λ z=>nomatch z) h
end
end L2
namespace L2
open PySem PySem.Spec PyProof.Rows
structure Room (k:Nat) (A:Around):Prop where
 hd:A.handled=none
 dp:A.depth+3*k+5<recursionLimit
 un:A.units+16*k+200<cLine
theorem Room.mono {j k:Nat} {A:Around} (r:Room k A) (h:j<=k):Room j A:=⟨r.hd,by have:=r.dp;omega,by have:=r.un;omega⟩
theorem Room.deeper {k:Nat} {A:Around} (r:Room (k+1) A) (env:Env):Room k (A.deeper env):=
 ⟨r.hd,by have:=r.dp;show A.depth+1+3*k+5<_;omega,by have:=r.un;show A.units+3+16*k+200<_;omega⟩
theorem make_depth {A:Around} {C:Addr} {us:List Value} {kw:List (Str × Value)}:(A.under (.builtin "type.__call__" ⟨.ref C::us,kw⟩)).depth=A.depth+1:=by
 first | rfl | simp [Around.under,Code.weight,Code.isCreation,Code.isGuard,Code.isCaller,Code.frames,Code.isFrame,guardIds]
theorem make_units {A:Around} {C:Addr} {us:List Value} {kw:List (Str × Value)}:(A.under (.builtin "type.__call__" ⟨.ref C::us,kw⟩)).units=A.units+1:=by
 first | rfl | simp [Around.under,Code.cUnits,Code.frames,Code.isFrame]
theorem Room.make {k:Nat} {A:Around} (r:Room (k+1) A) (C:Addr) (us:List Value) (kw:List (Str × Value)):Room k (A.under (.builtin "type.__call__" ⟨.ref C::us,kw⟩)):=
 ⟨r.hd,by have:=r.dp;rw [make_depth];omega,by have:=r.un;rw [make_units];omega⟩
theorem Room.depth {k:Nat} {A:Around} (r:Room k A):A.depth<recursionLimit:=by have:=r.dp;omega
theorem Room.units {k:Nat} {A:Around} (r:Room k A):A.units+64<cLine:=by have:=r.un;omega
theorem Room.units0 {k:Nat} {A:Around} (r:Room k A):A.units<cLine:=by have:=r.un;omega
noncomputable def tNil:TA:=λ _ H Q=>Q [] H
noncomputable def tCons (ta:TE) (tr:TA):TA:=λ σ H Q=>ta σ H λ x H1=>tr σ H1 λ xs H2=>Q (x::xs) H2
section
variable {X:Cx} {e:Expr} {es:List Expr} {te:TE} {t:TA} {pos:Pos}
theorem af:PA X [] tNil:=λ _ _ _ _ H Q I h=>Calls.spliced_nil ⟨[],H,I,.nil,h⟩
theorem aa (ha:PE X e te) (hr:PA X es t) (hs:starEach (e::es) X.env=(false,eval e X.env)::starEach es X.env:=by rfl):PA X (e::es) (tCons te t):=by
 intro pos pins s σ H Q I h;rw [hs];show wpAny _ _ (spliced ((false,eval e X.env)::backTo pos (starEach es X.env))) _ _ s;refine Calls.spliced_cons (thn (ha pins s σ H _ I h) λ u s1 ⟨x,H1,I1,r1,q1⟩=>?_);exact thn (hr pos pins s1 σ H1 _ I1 q1) λ us s2 ⟨xs,H2,I2,r2,q2⟩=>⟨x::xs,H2,I2,.cons r1 r2,q2⟩
noncomputable def tTup (t:TA):TE:=λ σ H Q=>t σ H λ xs H1=>xs.length<=sizeLine/\∀ p,H1 p=none->Q (.ref p) (upd H1 p (.tup xs))
noncomputable def tLst (t:TA):TE:=λ σ H Q=>t σ H λ xs H1=>xs.length<=sizeLine/\∀ p,H1 p=none->Q (.ref p) (upd H1 p (.lst xs))
theorem b8 {x1} (h:PA X es t):PE X (.Tuple es x1 pos) (tTup t):=by
 intro pins s σ H Q I hq;refine wpAny_Tuple_spliced (thn (h pos pins s σ H _ I hq) λ us s1 ⟨xs,H1,I1,r,z,q⟩=>⟨by rw [<- r.length];exact z,?_⟩);have hf:H1 s1.heap.objs.size=none:=I1.hok.fresh (eC _);refine ⟨.ref s1.heap.objs.size,upd H1 s1.heap.objs.size (.tup xs),I1.laid (t':=s1.toks) (λ b u e=>eA _ e) (eC _) ?_,rfl,q _ hf⟩;exact ⟨z,us,r,⟨_,eM _ rfl,rfl,_,rfl⟩⟩
theorem pe_lst (h:PA X es t):PE X (.List es pos) (tLst t):=by
 intro pins s σ H Q I hq;refine wpAny_List_spliced (thn (h pos pins s σ H _ I hq) λ us s1 ⟨xs,H1,I1,r,z,q⟩=>⟨by rw [<- r.length];exact z,?_⟩);have hf:H1 s1.heap.objs.size=none:=I1.hok.fresh (eC _);refine ⟨.ref s1.heap.objs.size,upd H1 s1.heap.objs.size (.lst xs),I1.laid (t':=s1.toks) (λ b u e=>eA _ e) (eC _) ?_,rfl,q _ hf⟩;exact ⟨z,us,0,r,eM _ rfl⟩
end
noncomputable abbrev Sp:=List V->Hp->VK->XK->Prop
noncomputable abbrev CXT:=List Env->Hp->Shared->XK->Value->Shared->Prop
structure Env0 (P:Program) (w:World) (K:W.Frag) (mg:Str->Option Value) (base:Heap) (A:Around) (outer:List Env) (s:Shared) (H:Hp):Prop where
 frames:A.frames=some outer
 mod:Mod K mg base
 bs:∀ b o,base.get? b=some o->s.heap.get? b=some o/\H b=none
 bsz:base.objs.size<=s.heap.objs.size
 funs:s.heap.FunFrames base outer
 frf:∀ b∈frs outer,H b=none
 hok:HOk P w H s.heap
 bare:AllBare s.gens
noncomputable def CE (outer:List Env) (P:Program) (w:World) (H:Hp) (s:Shared) (Q:VK) (u:Value) (s':Shared):Prop:=
 ∃ v H',s'.os=s.os/\AllBare s'.gens/\Un (frs outer) [] H H' s.heap s'.heap/\HOk P w H' s'.heap/\RelV v u/\Q v H'
noncomputable def CR (CX:CXT) (outer:List Env) (P:Program) (w:World) (H:Hp) (s:Shared) (Q:VK) (E:XK) (r:Result) (s':Shared):Prop:=
 match r with
 | .ok (.ret u)=>CE outer P w H s Q u s'
 | .ok _=>False
 | .error e=>CX outer H s E e s'
structure FnOk (P:Program) (w:World) (K:W.Frag) (mg:Str->Option Value) (base:Heap) (CX:CXT) (k:Nat) (f:Addr) (fd:FuncData) (ps:List Str) (sp:Sp):Prop where
 len:∀ vs H Q E,sp vs H Q E->vs.length=ps.length
 run:∀ (A:Around) (outer:List Env) (s:Shared) (H:Hp) (args:Args) (us:List Value) (vs:List V) (Q:VK) (E:XK),Room k A->Env0 P w K mg base A outer s H->BindsTo s fd args (ps.zip us)->Vals vs us->sp vs H Q E->
  codeAny (model P w) A (.call (.ref f) args) (CR CX outer P w H s Q E) s
theorem Env0.make {P:Program} {w:World} {K:W.Frag} {mg:Str->Option Value} {base:Heap} {A:Around} {outer:List Env} {s:Shared} {H:Hp} (e:Env0 P w K mg base A outer s H) (C:Addr) (us:List Value) (kw:List (Str × Value)) :
  Env0 P w K mg base (A.under (.builtin "type.__call__" ⟨.ref C::us,kw⟩)) outer s H:=⟨by first | exact e.frames | (simpa [Around.under,Code.envs,Code.isFrame,pushEnvs] using e.frames),e.mod,e.bs,e.bsz,e.funs,e.frf,e.hok,e.bare⟩
section
variable {X:Cx} {pins:List (Addr × Obj)} {σ:St} {H:Hp} {s s':Shared}
theorem Inv.env0 (I:Inv X pins σ H s):Env0 X.prog X.w X.K X.mg X.base X.A X.stack s H:=
 ⟨I.ok.frames,I.ok.mod,I.bs,eQ I.ok.bsz I.sz,I.stack,I.stkFree,I.hok,I.bare⟩
theorem Inv.after {Q:VK} {u:Value} (I:Inv X pins σ H s) (h:CE X.stack X.prog X.w H s Q u s'):EP X pins σ Q u s':=by
 obtain ⟨v,H',os,bare,un,hok,r,q⟩:=h;obtain ⟨hh,g,d,t,os'⟩:=s';obtain rfl:os'=s.os:=os;exact ⟨v,H',I.call (h':=hh) (g':=g) (d':=d) (t':=t) (ch:=[]) un hok bare (λ b z=>absurd z (by simp)),r,q⟩
end
noncomputable def tCall (sp:Sp) (dvs:List V) (E:XK) (t:TA):TE:=λ σ H Q=>t σ H λ vs H1=>sp (vs++dvs) H1 Q E
inductive ItMeth (C:Addr) (m:Str) (sp:Sp) (dvs:List V) (E:XK) (t:TA) (σ:St) (Q:VK) (x:V) (H1:Hp):Prop
 | mk (a:_) (dx:_) (fs:_) (h1:x=.ref a) (h2:H1 a=some (.ins C dx fs)) (h3:fs.lookup m=none) (h4:t σ H1 λ vs H2=>sp (x::(vs++dvs)) H2 Q E):ItMeth C m sp dvs E t σ Q x H1
noncomputable def tMake (C:Addr) (sp:Sp) (dvs:List V) (E:XK) (t:TA):TE:=λ σ H Q=>t σ H λ vs H1=>∀ x dx,H1 x=none->H1 dx=none->dx≠x->
 sp (.ref x::(vs++dvs)) (upd (upd H1 dx (.own x)) x (.ins C dx [])) (λ v H2=>v=.non/\Q (.ref x) H2) E
noncomputable def Binds (K:W.Frag) (fd:FuncData) (ps:List Str) (ds:List Value):Prop:=
 ∀ (s:Shared) (us:List Value),K.In s.heap->(us++ds).length=ps.length->BindsTo s fd ⟨us,[]⟩ (ps.zip (us++ds))
theorem Binds.all {K:W.Frag} {fd:FuncData} {ps:List Str} (h:∀ us:List Value,us.length=ps.length->bindArgs fd ⟨us,[]⟩=pure (ps.zip us)):Binds K fd ps []:=λ s us _ hl=>by
 rw [List.append_nil] at hl ⊢;exact .of_eq (h us hl)
noncomputable def bw (CX:CXT) (X:Cx) (E:XK):Prop:=∀ (pins:List (Addr × Obj)) (σ:St) (H:Hp) (s:Shared) (e:Value) (s':Shared),Inv X pins σ H s->CX X.stack H s E e s'->X.xe e s'
section
variable {X:Cx} {CX:CXT} {k:Nat} {f C:Addr} {fd:FuncData} {ps:List Str} {sp:Sp} {dvs:List V} {ds:List Value} {E:XK} {x m:Str} {p pos apos:Pos} {e o:Expr} {es:List Expr} {ta:TE} {t:TA}
theorem run_fn {pins:List (Addr × Obj)} {σ:St} {H:Hp} {s:Shared} {Q:VK} {us:List Value} {vs:List V} (F:FnOk X.prog X.w X.K X.mg X.base CX k f fd ps sp) (hr:Room k X.A) (hb:Binds X.K fd ps ds) (hd:Vals dvs ds) (hx:bw CX X E)
  (I:Inv X pins σ H s) (r:Vals vs us) (h:sp (vs++dvs) H Q E):wpAny (model X.prog X.w) X.A (call (.ref f) us) (EP X pins σ Q) X.xe s:=by
 have r2:Vals (vs++dvs) (us++ds):=r.append hd;have hl:(us++ds).length=ps.length:=by rw [<- r2.length];exact F.len _ _ _ _ h
 refine wpAny_call (codeAny_mono (F.run X.A X.stack s H ⟨us,[]⟩ (us++ds) (vs++dvs) Q E hr I.env0 (hb s us I.kIn hl) r2 h) λ r s' hq=>?_)
 cases r with
 | error e=>exact hx pins σ H s e s' I hq
 | ok fl=>
  cases fl with
  | ret u=>exact I.after hq
  | next=>exact False.elim hq
  | brk=>exact False.elim hq
  | cont=>exact False.elim hq
theorem pe_call (F:FnOk X.prog X.w X.K X.mg X.base CX k f fd ps sp) (hr:Room k X.A) (hg:Gl X x) (hm:X.mg x=some (.ref f)) (hk:PySem.W.keepIn X.K (.ref f)=true) (hb:Binds X.K fd ps ds) (hd:Vals dvs ds) (hx:bw CX X E)
  (ha:PA X (e::es) t) (hdb:(x == ("__debug__":Str))=false:=by decide) (he:starEach (e::es) X.env=(false,eval e X.env)::starEach es X.env:=by rfl) (hpl:(backTo pos (starEach es X.env)).any (·.1)=false:=by rfl) :
  PE X (.Call (.Name x p) (e::es) [] pos) (tCall sp dvs E t):=by
 intro pins s σ H Q I h;refine fW (bx I hg hm ?_ hdb);refine fX (h₀:=X.base) I.ok.mod.kin hk (thn (ha pos pins s σ H _ I h) λ us s1 ⟨vs,H1,I1,r,q⟩=>⟨I1.kIn,?_⟩) he hpl;exact run_fn F hr hb hd hx I1 r q
structure Mk (K:W.Frag) (C f:Addr):Prop where
 makes:PySem.W.makesIn K C=true
 init:PySem.W.findIn K (.ref C) "__init__"=some (some (.ref f))
 fn:PySem.W.isFn K (.ref f)=true
 kp:PySem.W.keepIn K (.ref C)=true
theorem run_make {pins:List (Addr × Obj)} {σ:St} {H:Hp} {s:Shared} {Q:VK} {us:List Value} {vs:List V} (M:Mk X.K C f) (F:FnOk X.prog X.w X.K X.mg X.base CX k f fd ps sp) (hr:Room (k+1) X.A) (hb:Binds X.K fd ps ds) (hd:Vals dvs ds)
  (hx:bw CX X E) (I:Inv X pins σ H s) (r:Vals vs us)
  (h:∀ x dx,H x=none->H dx=none->dx≠x->sp (.ref x::(vs++dvs)) (upd (upd H dx (.own x)) x (.ins C dx [])) (λ v H2=>v=.non/\Q (.ref x) H2) E) :
  wpAny (model X.prog X.w) X.A (call (.ref C) us) (EP X pins σ Q) X.xe s:=by
 have hq:=h (s.heap.objs.size+1) s.heap.objs.size (I.hok.fresh (Nat.le_succ _)) (I.hok.fresh (eC _)) (fg (Nat.lt_succ_self _));have I2:=Inv.made (C:=C) I;have r2:Vals (V.ref (s.heap.objs.size+1)::(vs++dvs)) (Value.ref (s.heap.objs.size+1)::(us++ds)):=.cons rfl (r.append hd)
 have hl:(Value.ref (s.heap.objs.size+1)::us++ds).length=ps.length:=by
  have e:=r2.length;rw [F.len _ _ _ _ hq] at e;exact e.symm
 refine wpAny_call (make_map (f:=f) I.kIn M.makes M.init (beq_iff_eq.mp M.fn) (codeAny_mono (F.run _ X.stack _ _ ⟨Value.ref (s.heap.objs.size+1)::us,[]⟩ (Value.ref (s.heap.objs.size+1)::(us++ds)) _ _ E (hr.make C us [])
  (I2.env0.make C us []) (hb _ (Value.ref (s.heap.objs.size+1)::us) I2.kIn hl) r2 hq) λ r s' hq'=>?_))
 cases r with
 | error e=>exact hx pins σ _ _ e s' I2 hq'
 | ok fl=>
  cases fl with
  | ret u=>
   obtain ⟨v,H',I3,rv,ev,q3⟩:=I2.after hq';subst ev;exact ⟨rv,⟨V.ref (s.heap.objs.size+1),H',I3,rfl,q3⟩⟩
  | next=>exact False.elim hq'
  | brk=>exact False.elim hq'
  | cont=>exact False.elim hq'
theorem pe_make (M:Mk X.K C f) (F:FnOk X.prog X.w X.K X.mg X.base CX k f fd ps sp) (hr:Room (k+1) X.A) (hg:Gl X x) (hm:X.mg x=some (.ref C)) (hb:Binds X.K fd ps ds) (hd:Vals dvs ds) (hx:bw CX X E)
  (ha:PA X (e::es) t) (hdb:(x == ("__debug__":Str))=false:=by decide) (he:starEach (e::es) X.env=(false,eval e X.env)::starEach es X.env:=by rfl) (hpl:(backTo pos (starEach es X.env)).any (·.1)=false:=by rfl) :
  PE X (.Call (.Name x p) (e::es) [] pos) (tMake C sp dvs E t):=by
 intro pins s σ H Q I h;refine fW (bx I hg hm ?_ hdb);refine fX (h₀:=X.base) I.ok.mod.kin M.kp (thn (ha pos pins s σ H _ I h) λ us s1 ⟨vs,H1,I1,r,q⟩=>⟨I1.kIn,?_⟩) he hpl;exact run_make M F hr hb hd hx I1 r q
theorem pe_make0 (M:Mk X.K C f) (F:FnOk X.prog X.w X.K X.mg X.base CX k f fd ps sp) (hr:Room (k+1) X.A) (hg:Gl X x) (hm:X.mg x=some (.ref C)) (hb:Binds X.K fd ps ds) (hd:Vals dvs ds) (hx:bw CX X E)
  (hdb:(x == ("__debug__":Str))=false:=by decide):PE X (.Call (.Name x p) [] [] pos) (tMake C sp dvs E tNil):=by
 intro pins s σ H Q I h;refine fW (bx I hg hm ?_ hdb);exact PySem.W.callWith_K0 I.kIn M.kp (run_make (us:=[]) M F hr hb hd hx I .nil h)
end
section
variable {X:Cx} {CX:CXT} {k:Nat} {f C:Addr} {fd:FuncData} {ps ks:List Str} {sp:Sp} {E:XK} {x m:Str} {p pos apos kpos:Pos} {e o:Expr} {es:List Expr} {kws:List Keyword} {te ta:TE} {t tk:TA} {nm:Option Str}
variable {g:List Value->List Value->List Value} {gV:List V->List V->List V}
end
structure FnScope (N P:List Str) (sc:Scope):Prop where
 kind:sc.kind=.function
 co:sc.isCoroutine=false
 gen:sc.isGenerator=false
 nd:N.Nodup
 pre:N.take P.length=P
 par:∀ x∈P,sc.names.lookup x=some .local∨sc.names.lookup x=some .cell
 nofree:∀ y∈sc.names,y.2≠.free
theorem bindL_out {kindOf:Str->Option NameKind} {x:Str}:∀ {binds:List (Str × Value)} {m:Str->Option Value},(∀ v,(x,v) ∉ binds)->bindL kindOf binds m x=m x
 | [],_,_=>rfl
 | (n,v)::r,m,h=>by
  unfold bindL;rw [bindL_out λ w hw=>h w (eW _ hw)]
  split
  ·have:x≠n:=by rintro rfl;exact h v eY
   simp [this]
  ·rfl
theorem bindC_out {kindOf:Str->Option NameKind} {x:Str}:∀ {binds:List (Str × Value)} {m:Str->Option Value},(∀ v,(x,v) ∉ binds)->bindC kindOf binds m x=m x
 | [],_,_=>rfl
 | (n,v)::r,m,h=>by
  unfold bindC;rw [bindC_out λ w hw=>h w (eW _ hw)]
  split
  ·rfl
  ·have:x≠n:=by rintro rfl;exact h v eY
   simp [this]
theorem bindL_get {kindOf:Str->Option NameKind} {x:Str} {v:Value}:∀ {P:List Str} {vs:List Value} {i:Nat} {m:Str->Option Value},P.Nodup->P[i]?=some x->vs[i]?=some v->kindOf x=some .local->
  bindL kindOf (P.zip vs) m x=some v
 | [],_,_,_,_,h,_,_=>by simp at h
 | _::_,[],_,_,_,_,h,_=>by simp at h
 | p::P,w::vs,0,m,nd,h1,h2,hk=>by
  simp at h1 h2;subst h1;subst h2;show bindL kindOf ((p,w)::P.zip vs) m p=_;unfold bindL;rw [bindL_out λ v hv=>(List.nodup_cons.mp nd).1 (List.of_mem_zip hv).1,if_pos hk];simp
 | p::P,w::vs,i+1,m,nd,h1,h2,hk=>by
  show bindL kindOf ((p,w)::P.zip vs) m x=_;unfold bindL;exact bindL_get (i:=i) (List.nodup_cons.mp nd).2 (by simpa using h1) (by simpa using h2) hk
theorem bindC_get {kindOf:Str->Option NameKind} {x:Str} {v:Value}:∀ {P:List Str} {vs:List Value} {i:Nat} {m:Str->Option Value},P.Nodup->P[i]?=some x->vs[i]?=some v->kindOf x≠some .local->
  bindC kindOf (P.zip vs) m x=some v
 | [],_,_,_,_,h,_,_=>by simp at h
 | _::_,[],_,_,_,_,h,_=>by simp at h
 | p::P,w::vs,0,m,nd,h1,h2,hk=>by
  simp at h1 h2;subst h1;subst h2;show bindC kindOf ((p,w)::P.zip vs) m p=_;unfold bindC;rw [bindC_out λ v hv=>(List.nodup_cons.mp nd).1 (List.of_mem_zip hv).1,if_neg hk];simp
 | p::P,w::vs,i+1,m,nd,h1,h2,hk=>by
  show bindC kindOf ((p,w)::P.zip vs) m x=_;unfold bindC;exact bindC_get (i:=i) (List.nodup_cons.mp nd).2 (by simpa using h1) (by simpa using h2) hk
noncomputable def bM (N:List Str) (vs:List V):St:=vs.map some++List.replicate (N.length-vs.length) none
noncomputable def aL (CX:CXT) (P:Program) (w:World) (K:W.Frag) (mg:Str->Option Value) (base:Heap) (N:List Str) (qual:Str) (scope:Scope) (f:Addr) (cd:Value) (A:Around) (outer:List Env) (s:Shared) (H:Hp) (E:XK):Cx where
 prog:=P
 w:=w
 K:=K
 mg:=mg
 base:=base
 A:=A.deeper (envOfC qual scope s.heap.objs.size f cd)
 N:=N
 s₀:=s
 H₀:=H
 env:=envOfC qual scope s.heap.objs.size f cd
 outer:=outer
 stack:=envOfC qual scope s.heap.objs.size f cd::outer
 ex:=[]
 calm:=true
 fn:=λ _=>true
 pn:=[]
 xe:=λ e s'=>wpAny (model P w) (A.deeper (envOfC qual scope s.heap.objs.size f cd)) (leaving (envOfC qual scope s.heap.objs.size f cd) e) (λ _ s''=>CX outer H s E e s'') (λ e' s''=>CX outer H s E e' s'') s'
theorem cell_has {sc:Scope} {n:Nat} {x:Str} (h:sc.names.lookup x=some .cell):∃ c,(cellsFrom n sc.names []).lookup x=some c:=by
 have q:=PySem.W.cellsFrom_some sc.names n [] (.inl h);exact Option.isSome_iff_exists.mp q
theorem inv_start {CX:CXT} {P:Program} {w:World} {K:W.Frag} {mg:Str->Option Value} {base:Heap} {N ps:List Str} {qual:Str} {scope:Scope} {f:Addr} {cd:Value} {A:Around} {outer:List Env} {s s1:Shared} {H:Hp} {E:XK} {us:List Value} {vs:List V}
  (S:FnScope N ps scope) (hd:A.handled=none) (e0:Env0 P w K mg base A outer s H) (hl:vs.length=ps.length) (r:Vals vs us)
  (x:InCallC s s.heap.objs.size (bindL (envOfC qual scope s.heap.objs.size f cd).kindOf (ps.zip us) λ _=>none) (cellsFrom (s.heap.objs.size+1) scope.names []) (bindC (envOfC qual scope s.heap.objs.size f cd).kindOf (ps.zip us) λ _=>none) s1) :
  Inv (aL CX P w K mg base N qual scope f cd A outer s H E) [] (bM N vs) H s1:=by
 have hpl:ps.length<=N.length:=by have:=fv List.length S.pre;rw [fQ] at this;omega
 obtain ⟨h1,tk,rfl,hk⟩:=x.done;have noA:∀ b:Addr,b ∉ (aL CX P w K mg base N qual scope f cd A outer s H E).ex:=λ b z=>absurd (show b∈([]:List Addr) from z) (by simp)
 refine ⟨⟨e0.mod,S.kind,rfl,rfl,eC _,λ y z c h1 h2=>?_,λ y hy=>?_,λ y c _ h=>?_,λ _=>hd,Around.frames_deeper e0.frames,.inr ⟨rfl,rfl⟩,λ b z=>absurd z (noA b),e0.bs,e0.bsz,λ b _ _=>noA b,λ b z=>absurd z (noA b),e0.funs,e0.frf⟩,
  rfl,e0.bare,Un.kept hk,⟨_,x.toInCall.ns,λ i y v h1 h2 h3=>?_⟩,λ y c h=>⟨_,x.cell y c h⟩,e0.hok.fresh (eC _),λ y c h=>?_,λ p hp=>absurd (show p∈([]:List (Addr × Obj)) from hp) (by simp),e0.hok.kept hk,?_⟩
 ·exact name_of_addr x.apart (fB h1) (fB h2)
 ·have hy:scope.names.lookup y=some .cell∨scope.names.lookup y=some .free:=hy;rcases hy with hy | hy
  ·exact cell_has hy
  ·exact absurd rfl (S.nofree _ (fB hy))
 ·exact Nat.le_of_lt (x.above y c (fB h))
 ·have hi:i<vs.length:=by
   unfold bM at h2;by_cases hi:i<vs.length
   ·exact hi
   ·rw [fF (by simpa using hi)] at h2;rw [List.getElem?_replicate] at h2
    split at h2 <;> cases h2
  have ha:vs[i]?=some v:=by
   unfold bM at h2;rw [List.getElem?_append_left (by simpa using hi),eN] at h2
   cases e:vs[i]? with
   | none=>rw [e] at h2;cases h2
   | some a=>rw [e] at h2;cases h2;rfl
  obtain ⟨u,hu,rv⟩:=r.get ha
  have hp:ps[i]?=some y:=by
   rw [<- S.pre,List.getElem?_take_of_lt (by omega)];exact h1
  have ndP:ps.Nodup:=by rw [<- S.pre];exact S.nd.sublist (List.take_sublist _ _)
  refine ⟨u,rv,?_⟩;rcases S.par y (fk hp) with k | k
  ·exact .inl ⟨k,bindL_get ndP hp hu k⟩
  ·obtain ⟨c,e⟩:=cell_has (n:=s.heap.objs.size+1) k;refine .inr ⟨.inl k,c,e,?_⟩;have q:=x.cell y c e;rw [bindC_get ndP hp hu (by show scope.names.lookup y≠_;rw [k];decide)] at q;exact q
 ·exact e0.hok.fresh (Nat.le_of_lt (x.above y c (fB h)))
 ·unfold bM;show _=N.length;rw [fm,eB,List.length_replicate];omega
theorem fn_of {CX:CXT} {P:Program} {w:World} {K:W.Frag} {mg:Str->Option Value} {base:Heap} {k:Nat} {f:Addr} {name qual:Str} {params:Arguments} {body:List Stmt} {scope:Scope} {dV kV doc pm cdv ct oc:Value} {an od:Option Addr}
  {osl:Array (Option Value)} {N ps:List Str} {sp:Sp} (lk:K.lookup f=some ⟨oc,od,.func (PySem.W.fnOf name qual params body scope dV kV doc pm an cdv ct),osl⟩) (hcd:PySem.W.codeIn K cdv qual=true) (S:FnScope N ps scope)
  (len:∀ vs H Q E,sp vs H Q E->vs.length=ps.length)
  (hbody:∀ (A:Around) (outer:List Env) (s:Shared) (H:Hp) (vs:List V) (Q:VK) (E:XK),Room k (A.deeper (envOfC qual scope s.heap.objs.size f cdv))->sp vs H Q E->
   ∃ t,PSs (aL CX P w K mg base N qual scope f cdv A outer s H E) body t/\t { nx:=λ _ H'=>Q .non H',rt:=Q } (bM N vs) H) :
  FnOk P w K mg base CX (k+1) f (PySem.W.fnOf name qual params body scope dV kV doc pm an cdv ct) ps sp:=by
 refine ⟨len,λ A outer s H args us vs Q E hr e0 hb r hsp=>?_⟩;have hl:=len _ _ _ _ hsp;have KX:K.In s.heap:=e0.mod.kin.keeps λ b o e=>(e0.bs b o e).1;have lim:s.heap.NoLimit:=e0.mod.nolimit.keeps λ b o e=>(e0.bs b o e).1
 have hkind:∀ y∈ps.zip us,scope.names.lookup y.1=some .local∨(scope.names.lookup y.1=some .cell/\((cellsFrom (s.heap.objs.size+1) scope.names []).lookup y.1).isSome=true):=λ⟨n,v⟩ hy=>by
  rcases S.par n (List.of_mem_zip hy).1 with q | q
  ·exact .inl q
  ·exact .inr ⟨q,PySem.W.cellsFrom_some _ _ _ (.inl q)⟩
 refine codeAny_call_function hr.depth (KX _ _ lk) rfl S.co S.gen rfl (PySem.W.codeRec_of KX hcd) (hb _ _ _ _ ?_);refine wpAny_newFunctionEnv_cells S.kind hkind λ env he s1 x=>?_;subst he;refine ⟨lim.keeps x.toInCall.keep,codeAny_func ?_⟩;obtain ⟨t,ht,hq⟩:=hbody A outer s H vs Q E (hr.deeper _) hsp;have I:Inv (aL CX P w K mg base N qual scope f cdv A outer s H E) [] (bM N vs) H s1:=inv_start S hr.hd e0 hl r x;refine fh (ht [] s1 (bM N vs) H _ I hq) (λ fl s' hs=>?_) λ e s' hs=>hs
 have fin:∀ {σ':St} {H':Hp} {v:V} {u:Value},Inv (aL CX P w K mg base N qual scope f cdv A outer s H E) [] σ' H' s'->RelV v u->Q v H'->CE outer P w H s Q u s':=
  λ {σ' H' v u} J rv q=>⟨v,H',J.os,J.bare,J.base,J.hok,rv,q⟩
 cases fl with
 | ret u=>
  obtain ⟨v,σ',H',J,rv,q⟩:=hs;exact fin J rv q
 | next=>
  obtain ⟨σ',H',J,q⟩:=hs;exact fin (v:=V.non) (u:=Value.none) J rfl q
 | brk=>
  obtain ⟨_,_,_,q⟩:=hs;exact False.elim q
 | cont=>
  obtain ⟨_,_,_,q⟩:=hs;exact False.elim q
end L2
namespace L2
open PySem PySem.Spec PyProof.Rows
section
variable {X:Cx} {x:Str} {p pos:Pos} {e:Expr} {es:List Expr} {t:TA} {id T:String} {r:List V->Hp->VK->Prop}
noncomputable def tCB (r:List V->Hp->VK->Prop) (t:TA):TE:=λ σ H Q=>t σ H λ vs H1=>r vs H1 Q
theorem az (hc:bS X (.builtin id) r) (hg:Gl X x) (hm:X.mg x=none) (hv:bootBuiltins x=some (.builtin id)) (ha:PA X (e::es) t) (hn:x≠"__name__":=by decide) (hdb:(x == ("__debug__":Str))=false:=by decide)
  (he:starEach (e::es) X.env=(false,eval e X.env)::starEach es X.env:=by rfl) (hpl:(backTo pos (starEach es X.env)).any (·.1)=false:=by rfl):PE X (.Call (.Name x p) (e::es) [] pos) (tCB r t):=by
 intro pins s σ H Q I h;refine fW (ld_blt I hg hm hv ?_ hn hdb);exact PyProof.Rows.callWith_builtin1 (thn (ha pos pins s σ H _ I h) λ us s1 ⟨vs,H1,I1,r1,q1⟩=>hc pins s1 σ H1 vs us Q I1 r1 q1) he hpl
theorem aQ (hc:bS X (.type T) r) (hg:Gl X x) (hm:X.mg x=none) (hv:bootBuiltins x=some (.type T)) (ha:PA X (e::es) t) (hn:x≠"__name__":=by decide) (hdb:(x == ("__debug__":Str))=false:=by decide)
  (he:starEach (e::es) X.env=(false,eval e X.env)::starEach es X.env:=by rfl) (hpl:(backTo pos (starEach es X.env)).any (·.1)=false:=by rfl):PE X (.Call (.Name x p) (e::es) [] pos) (tCB r t):=by
 intro pins s σ H Q I h;refine fW (ld_blt I hg hm hv ?_ hn hdb);exact PyProof.Rows.callWith_type1 (thn (ha pos pins s σ H _ I h) λ us s1 ⟨vs,H1,I1,r1,q1⟩=>hc pins s1 σ H1 vs us Q I1 r1 q1) he hpl
end
end L2
namespace HT
open PySem PyProof.Rows
noncomputable def lexLt:List Int->List Int->Bool
 | [],[]=>false
 | [],_::_=>true
 | _::_,[]=>false
 | x::xs,y::ys=>if x=y then lexLt xs ys else decide (x<y)
section
open PySem.SeqAt
open PySem.AutoSeq1 (wpAny_loadPart')
open PySem.MeetsSeq PySem.MeetsSeq2 PySem.MeetsSeq3
end
section
variable {prog:Program} {w:World} {A:Around} {E:Value->Shared->Prop} {s:Shared}
noncomputable def sIx (n d:Nat):Option Int->Nat
 | none=>d
 | some v=>if v<0 then (v+(n:Int)).toNat else min v.toNat n
theorem sIx_none (n d:Nat):sIx n d none=d:=rfl
theorem sIx_nat (n d k:Nat):sIx n d (some (k:Int))=min k n:=by
 show (if (k:Int)<0 then ((k:Int)+(n:Int)).toNat else min (k:Int).toNat n)=min k n;rw [if_neg (by omega),Int.toNat_natCast]
end
end HT
namespace L2
open PySem PySem.Spec PyProof.Rows
noncomputable abbrev TO:=St->Hp->(Option Int->Hp->Prop)->Prop
noncomputable def PO (X:Cx) (e:Option Expr) (t:TO):Prop:=
 ∀ (pins:List (Addr × Obj)) (s:Shared) (σ:St) (H:Hp) (Q:Option Int->Hp->Prop),Inv X pins σ H s->t σ H Q->
  wpAny (model X.prog X.w) X.A (evalPart e X.env) (λ u s'=>∃ o H',Inv X pins σ H' s'/\IsPart u o/\Q o H') X.xe s
noncomputable def tNoPart:TO:=λ _ H Q=>Q none H
noncomputable def tPart (t:TE):TO:=λ σ H Q=>t σ H λ x H1=>∃ i,x=.int i/\Q (some i) H1
section
variable {X:Cx} {e:Expr} {te:TE} {lo hi:Option Expr} {tl th:TO} {pos p2:Pos}
theorem po_none:PO X none tNoPart:=by
 intro pins s σ H Q I h;rw [evalPart_none];exact eJ ⟨none,H,I,.none,h⟩
theorem po_some (h:PE X e te):PO X (some e) (tPart te):=by
 intro pins s σ H Q I hw;rw [evalPart_some];refine thn (h pins s σ H _ I hw) λ u s1 ⟨x,H1,I1,r1,q1⟩=>?_;obtain ⟨i,rfl,q⟩:=q1;obtain ⟨t,rfl⟩:=r1;exact ⟨some i,H1,I1,.int i t,q⟩
noncomputable def SlR (X:Cx) (r:V->Option Int->Option Int->Hp->VK->Prop):Prop:=
 ∀ (pins:List (Addr × Obj)) (s:Shared) (σ:St) (H:Hp) (x:V) (v vl vu:Value) (lo hi:Option Int) (sl:Addr) (Q:VK),Inv X pins σ H s->RelV x v->s.heap.IsSliceOf sl vl vu .none->IsPart vl lo->IsPart vu hi->r x lo hi H Q->
  ∃ T id,typeLookup (.type T) "__getitem__"=pure (some (.builtin id))/\s.TypeIs v T/\wpAny (model X.prog X.w) X.A (getItem v (.ref sl)) (EP X pins σ Q) X.xe s
noncomputable def tSl (r:V->Option Int->Option Int->Hp->VK->Prop) (te:TE) (tl th:TO):TE:=λ σ H Q=>te σ H λ x H1=>tl σ H1 λ l H2=>th σ H2 λ u H3=>r x l u H3 Q
theorem pe_slice {r:V->Option Int->Option Int->Hp->VK->Prop} (hr:SlR X r) (he:PE X e te) (hl:PO X lo tl) (hu:PO X hi th):PE X (.Subscript e (.Slice lo hi none p2) pos) (tSl r te tl th):=by
 intro pins s σ H Q I h;refine Subscript_ (thn (he pins s σ H _ I h) λ v s1 ⟨x,H1,I1,r1,q1⟩=>?_);refine wpAny_Slice (thn (hl pins s1 σ H1 _ I1 q1) λ vl s2 ⟨l,H2,I2,pl,q2⟩=>thn (hu pins s2 σ H2 _ I2 q2) λ vu s3 ⟨u,H3,I3,pu,q3⟩=>?_);rw [evalPart_none];refine eJ ?_;have I4:Inv X pins σ H3 { s3 with heap:=s3.heap.push { cls:=.type "slice",data:=.fields #[vl,vu,.none] } }:=I3.kept (t':=s3.toks) λ b ob q=>eA _ q;obtain ⟨T,id,hT,ht,hg⟩:=hr pins { s3 with heap:=s3.heap.push { cls:=.type "slice",data:=.fields #[vl,vu,.none] } } σ H3 x v vl vu l u s3.heap.objs.size Q I4 r1 (Heap.IsSliceOf.new ..) pl pu q3;show wpAny (model X.prog X.w) X.A (subscriptTail e (.Slice lo hi none p2) v (.ref s3.heap.objs.size)) (EP X pins σ Q) X.xe { s3 with heap:=s3.heap.push { cls:=.type "slice",data:=.fields #[vl,vu,.none] } };exact tail_any (ops:=[.ref s3.heap.objs.size,v]) ht hT hg (by with_unfolding_all rfl)
noncomputable def cutV (xs:List V) (lo hi:Option Int):List V:=(xs.drop (HT.sIx xs.length 0 lo)).take (HT.sIx xs.length xs.length hi-HT.sIx xs.length 0 lo)
theorem cutV_length (xs:List V) (lo hi:Option Int):(cutV xs lo hi).length<=xs.length:=by
 unfold cutV;rw [fQ,List.length_drop];omega
end
end L2
namespace L2
open PySem PySem.Spec PyProof.Rows
noncomputable def ixN (n:Nat) (i:Int):Option Nat:=if 0<=i then (if i<n then some i.toNat else none) else if -(n:Int)<=i then some (i+n).toNat else none
noncomputable def atI {α:Type} (xs:List α) (i:Int):Option α:=(ixN xs.length i).bind λ j=>xs[j]?
theorem ixN_seq {n:Nat} {i:Int} {j:Nat} (h:ixN n i=some j):seqIndex? i n=some j/\j<n/\-(n:Int)<=i/\i<n:=by
 unfold ixN at h;by_cases h0:0<=i
 ·rw [if_pos h0] at h;by_cases h1:i<n
  ·rw [if_pos h1] at h;have e:i.toNat=j:=eZ h;exact ⟨by rw [seqIndex_of h0 h1,e],by omega,by omega,h1⟩
  ·rw [if_neg h1] at h;cases h
 ·rw [if_neg h0] at h;by_cases h1:-(n:Int)<=i
  ·rw [if_pos h1] at h;have e:(i+n).toNat=j:=eZ h;exact ⟨by rw [seqIndex_neg (by omega) h1,e],by omega,h1,by omega⟩
  ·rw [if_neg h1] at h;cases h
theorem atI_get {α:Type} {xs:List α} {i:Int} {v:α} (h:atI xs i=some v):∃ j,seqIndex? i xs.length=some j/\xs[j]?=some v/\j<xs.length/\-(xs.length:Int)<=i/\i<xs.length:=by
 unfold atI at h
 cases e:ixN xs.length i with
 | none=>rw [e] at h;cases h
 | some j=>
  rw [e] at h;obtain ⟨h1,h2,h3,h4⟩:=ixN_seq e;exact ⟨j,h1,h,h2,h3,h4⟩
theorem atI_nat {α:Type} {xs:List α} {j:Nat} {v:α} (h:xs[j]?=some v):atI xs (j:Int)=some v:=by
 have hj:j<xs.length:=(eG.mp h).1
 have e:ixN xs.length (j:Int)=some j:=by
  unfold ixN;rw [if_pos (by omega),if_pos (by omega)];simp
 unfold atI;rw [e];exact h
noncomputable def PlainIx (b:Expr):Prop:=∀ o i,subscripted b false o i=operate [o,i] (getItem o i)
noncomputable def IxR (X:Cx) (r:R2):Prop:=
 ∀ (value slice:Expr) (pins:List (Addr × Obj)) (s:Shared) (σ:St) (H:Hp) (x y:V) (v u:Value) (Q:VK),Inv X pins σ H s->RelV x v->RelV y u->r x y H Q->
  subscripted slice false v u=operate [v,u] (getItem v u)->wpAny (model X.prog X.w) X.A (subscriptTail value slice v u) (EP X pins σ Q) X.xe s
noncomputable def MtR (X:Cx) (id:String) (r:V->List V->Hp->VK->Prop):Prop:=
 ∀ (pins:List (Addr × Obj)) (s:Shared) (σ:St) (H:Hp) (x:V) (xs:List V) (v:Value) (us:List Value) (Q:VK),Inv X pins σ H s->RelV x v->Vals xs us->r x xs H Q->
  wpAny (model X.prog X.w) X.A (call (.builtin id) (v::us)) (EP X pins σ Q) X.xe s
section
variable {X:Cx} {a b:Expr} {ta tb:TE} {pos:Pos}
theorem aK {r:R2} (hr:IxR X r) (ha:PE X a ta) (hb:PE X b tb) (hs:PlainIx b):PE X (.Subscript a b pos) (tOp r ta tb):=by
 intro pins s σ H Q I h;exact Subscript_ (binT ha hb I h λ v u s2 x y H2 I2 rx ry q=>hr a b pins s2 σ H2 x y v u Q I2 rx ry q (hs _ _))
inductive IrIxL (K:W.Frag) (x:V) (y:V) (H:Hp) (Q:VK):Prop
 | mk (p:_) (xs:_) (i:_) (v:_) (h1:x=.ref p) (h2:y=.int i) (h3:SqL K H p xs) (h4:atI xs i=some v) (h5:Q v H):IrIxL K x y H Q
noncomputable def rIxL (K:W.Frag):R2:=λ x y H Q=>IrIxL K x y H Q
inductive IrIxT (K:W.Frag) (x:V) (y:V) (H:Hp) (Q:VK):Prop
 | mk (p:_) (xs:_) (i:_) (v:_) (h1:x=.ref p) (h2:y=.int i) (h3:SqT K H p xs) (h4:atI xs i=some v) (h5:Q v H):IrIxT K x y H Q
noncomputable def rIxT (K:W.Frag):R2:=λ x y H Q=>IrIxT K x y H Q
noncomputable def rIxS:R2:=λ x y H Q=>∃ z i c,x=.str z/\y=.int i/\z.length<=sizeLine/\atI z.cps.toList i=some c/\Q (.str ⟨#[c]⟩) H
theorem aE:IxR X (rIxL X.K):=by
 intro value slice pins s σ H x y v u Q I rx ry h hs;obtain ⟨p,xs,i,z,rfl,rfl,hq,he,q⟩:=h
 cases rx;obtain ⟨t,rfl⟩:=ry;obtain ⟨its,r,pl,hz⟩:=I.list hq;obtain ⟨j,h1,h2,h3,h4,h5⟩:=atI_get he;obtain ⟨w,ew,rw'⟩:=r.get h2;have hl:=r.length;have hn:=line63;have fin:EP X pins σ Q w s:=⟨z,H,I,rw',q⟩;by_cases h0:0<=i
 ·have hj:i.toNat=j:=by
   rw [seqIndex_of h0 h5] at h1;exact eZ h1
  exact item_listR pl.isList h0 (by omega) (by rw [hj];simpa using ew) fin hs
 ·have hj:(i+(its.toArray.size:Int)).toNat=j:=by
   rw [seqIndex_neg (by omega) h4] at h1;rw [eU,<- hl];exact eZ h1
  exact subscriptTail_builtinR (x:=w) pl.isList.typeIs slot_list_getitem.lookup
   (wpAny_getItem_list_neg (Q:=λ r s'=>r=w/\EP X pins σ Q r s') pl.isList (by omega) (by rw [eU] <;> omega) (by omega) (by rw [hj];simpa using ew) ⟨rfl,fin⟩) hs
theorem ix_tup:IxR X (rIxT X.K):=by
 intro value slice pins s σ H x y v u Q I rx ry h hs;obtain ⟨p,xs,i,z,rfl,rfl,hq,he,q⟩:=h
 cases rx;obtain ⟨t,rfl⟩:=ry;obtain ⟨its,r,pl,hz⟩:=I.tuple hq;obtain ⟨j,h1,h2,h3,h4,h5⟩:=atI_get he;obtain ⟨w,ew,rw'⟩:=r.get h2;have hl:=r.length;have hn:=line63;have fin:EP X pins σ Q w s:=⟨z,H,I,rw',q⟩
 exact subscriptTail_builtinR (x:=w) pl.typeIs slot_tuple_getitem.lookup
  (getItem_tuple (j:=j) (Q:=λ r s'=>r=w/\EP X pins σ Q r s') pl (by omega) (by omega) (by rw [eU,<- hl];exact h1) (by simpa using ew) ⟨rfl,fin⟩) hs
theorem ix_str:IxR X rIxS:=by
 intro value slice pins s σ H x y v u Q I rx ry h hs;obtain ⟨z,i,c,rfl,rfl,hz,he,q⟩:=h;obtain ⟨t,rfl⟩:=rx;obtain ⟨t',rfl⟩:=ry;obtain ⟨j,h1,h2,h3,h4,h5⟩:=atI_get he;have hl:z.cps.toList.length=z.length:=by simp [Str.length]
 rw [hl] at h1 h4 h5;have hn:=line63
 exact tail_any (typeIs_str s z t) slot_str_getitem.lookup (getItem_str (c:=c) (by
  have e1:decide (i < -(2 ^ 63:Int))=false:=eD (by omega);have e2:decide (i ≥ 2 ^ 63)=false:=eD (by omega);rw [e1,e2,Bool.or_false]) (by rw [h1];simpa using h2) ⟨.str ⟨#[c]⟩,H,I.tok _,⟨_,rfl⟩,q⟩) hs
theorem slice_bounds (lo hi:Option Int) (n:Nat):(sliceBounds lo hi none n).1=((HT.sIx n 0 lo:Nat):Int)/\(sliceBounds lo hi none n).2.1=((HT.sIx n n hi:Nat):Int)/\(sliceBounds lo hi none n).2.2=1:=by
 refine ⟨?_,?_,rfl⟩
 ·cases lo with
  | none=>simp [sliceBounds,HT.sIx]
  | some i=>
   simp only [sliceBounds,HT.sIx,Option.getD_none,show (1:Int) > 0 by decide,if_true];by_cases h:i<0
   ·simp only [h,if_true] <;> omega
   ·simp only [h,if_false] <;> omega
 ·cases hi with
  | none=>simp [sliceBounds,HT.sIx]
  | some i=>
   simp only [sliceBounds,HT.sIx,Option.getD_none,show (1:Int) > 0 by decide,if_true];by_cases h:i<0
   ·simp only [h,if_true] <;> omega
   ·simp only [h,if_false] <;> omega
theorem slicePick_cut (its:List Value) (lo hi:Option Int):slicePick its.toArray lo hi none=((its.drop (HT.sIx its.length 0 lo)).take (HT.sIx its.length its.length hi-HT.sIx its.length 0 lo)).toArray:=by
 obtain ⟨h1,h2,h3⟩:=slice_bounds lo hi its.toArray.size;unfold slicePick;rw [h1,h2,h3];simp only [sliceRange_one,pick_run,eU] <;> rfl
inductive IrSlL (K:W.Frag) (x:V) (lo:Option Int) (hi:Option Int) (H:Hp) (Q:VK):Prop
 | mk (a:_) (xs:_) (h1:x=.ref a) (h2:SqL K H a xs) (h3:∀ p,H p=none->Q (.ref p) (upd H p (.lst (cutV xs lo hi)))):IrSlL K x lo hi H Q
noncomputable def rSlL (K:W.Frag):V->Option Int->Option Int->Hp->VK->Prop:=λ x lo hi H Q=>IrSlL K x lo hi H Q
theorem sl_list:SlR X (rSlL X.K):=by
 intro pins s σ H x v vl vu lo hi sl Q I rx hs pl pu h;obtain ⟨a,xs,rfl,hx,q⟩:=h
 cases rx;obtain ⟨its,r,ht,hz⟩:=I.list hx;have hlen:=r.length;refine ⟨"list",_,slot_list_getitem.lookup,ht.isList.typeIs,?_⟩;refine wpAny_getItem_list_slice ht.isList hs pl pu .none (by simp) ?_ (by rw [eU] <;> omega);rw [slicePick_cut,<- hlen];refine ⟨.ref s.heap.objs.size,_,I.laid (t':=s.toks) (o:=.lst (cutV xs lo hi)) (λ b ob q=>eA _ q) (eC _) ?_,rfl,q _ (I.hok.fresh (eC _))⟩;exact ⟨eQ (cutV_length xs lo hi) hz,_,0,(r.drop (HT.sIx xs.length 0 lo)).take (HT.sIx xs.length xs.length hi-HT.sIx xs.length 0 lo),eM _ rfl⟩
noncomputable def bu:V->Bool
 | .non=>true
 | .bl _=>true
 | .int _=>true
 | .str _=>true
 | _=>false
noncomputable def eqV:V->V->Bool
 | .non,.non=>true
 | .bl a,.bl b=>a == b
 | .bl a,.int b=>(if a then 1 else 0) == b
 | .int a,.bl b=>a == (if b then 1 else 0)
 | .int a,.int b=>a == b
 | .str a,.str b=>a == b
 | _,_=>false
theorem eqAt_V {A:Around} {s:Shared} {y x:V} {u v:Value} (ry:RelV y u) (rx:RelV x v) (fy:bu y=true) (fx:bu x=true):SeqAt.EqAt A s u v (eqV y x):=by
 cases y with
 | non=>
  cases ry
  cases x with
  | non=>cases rx;exact SeqAt.EqAt.same _
  | bl b=>cases rx;exact SeqAt.EqAt.none_bool b
  | int b=>obtain ⟨t,rfl⟩:=rx;exact SeqAt.EqAt.none_int b t
  | str b=>obtain ⟨t,rfl⟩:=rx;exact SeqAt.EqAt.none_str b t
  | _=>exact absurd (show false=true from fx) eO
 | bl a=>
  cases ry
  cases x with
  | non=>cases rx;exact SeqAt.EqAt.bool_none a
  | bl b=>cases rx;exact SeqAt.EqAt.bool_bool a b
  | int b=>obtain ⟨t,rfl⟩:=rx;exact SeqAt.EqAt.bool_int a b t
  | str b=>obtain ⟨t,rfl⟩:=rx;exact SeqAt.EqAt.bool_str a b t
  | _=>exact absurd (show false=true from fx) eO
 | int a=>
  obtain ⟨t',rfl⟩:=ry
  cases x with
  | non=>cases rx;exact SeqAt.EqAt.int_none a t'
  | bl b=>cases rx;exact SeqAt.EqAt.int_bool a t' b
  | int b=>obtain ⟨t,rfl⟩:=rx;exact SeqAt.EqAt.int_int a t' b t
  | str b=>obtain ⟨t,rfl⟩:=rx;exact SeqAt.EqAt.int_str a t' b t
  | _=>exact absurd (show false=true from fx) eO
 | str a=>
  obtain ⟨t',rfl⟩:=ry
  cases x with
  | non=>cases rx;exact SeqAt.EqAt.str_none a t'
  | bl b=>cases rx;exact SeqAt.EqAt.str_bool a t' b
  | int b=>obtain ⟨t,rfl⟩:=rx;exact SeqAt.EqAt.str_int a t' b t
  | str b=>obtain ⟨t,rfl⟩:=rx;exact SeqAt.EqAt.str_str a t' b t
  | _=>exact absurd (show false=true from fx) eO
 | _=>exact absurd (show false=true from fy) eO
noncomputable def eqU (x:V) (u:Value):Bool:=match u with
 | .none=>eqV .non x
 | .bool b=>eqV (.bl b) x
 | .int i _=>eqV (.int i) x
 | .str z _=>eqV (.str z) x
 | _=>false
theorem eqU_of {x y:V} {u:Value} (r:RelV y u) (f:bu y=true):eqU x u=eqV y x:=by
 cases y with
 | non=>cases r;rfl
 | bl b=>cases r;rfl
 | int i=>obtain ⟨t,rfl⟩:=r;rfl
 | str z=>obtain ⟨t,rfl⟩:=r;rfl
 | _=>exact absurd (show false=true from f) eO
theorem any_eqU {x:V}:∀ {xs:List V} {us:List Value},Vals xs us->xs.all bu=true->us.any (eqU x)=xs.any λ y=>eqV y x
 | _,_,.nil,_=>rfl
 | y::xs,u::us,.cons r t,f=>by
  rw [List.all_cons,Bool.and_eq_true] at f;rw [List.any_cons,List.any_cons,eqU_of r f.1,any_eqU t f.2]
theorem mem_eqAt {A:Around} {s:Shared} {x:V} {v:Value} (rx:RelV x v) (fx:bu x=true):∀ {xs:List V} {us:List Value},Vals xs us->xs.all bu=true->∀ u∈us,SeqAt.EqAt A s u v (eqU x u)
 | _,_,.nil,_=>λ u hu=>by cases hu
 | y::xs,u::us,.cons r t,f=>λ u' hu=>by
  rw [List.all_cons,Bool.and_eq_true] at f;rcases eT.mp hu with rfl | hu
  ·rw [eqU_of r f.1];exact eqAt_V r rx f.1 fx
  ·exact mem_eqAt rx fx t f.2 u' hu
noncomputable def inV (x:V) (xs:List V):Bool:=xs.any λ y=>eqV y x
noncomputable def rIn (K:W.Frag) (neg:Bool):R2:=λ x y H Q=>∃ p xs,y=.ref p/\(SqL K H p xs∨SqT K H p xs)/\bu x=true/\xs.all bu=true/\Q (.bl (if neg then !inV x xs else inV x xs)) H
theorem op_in_seq:OpR X (compareOp .In) (rIn X.K false):=by
 intro pins s σ H x y v u Q I rx ry h;obtain ⟨p,xs,rfl,hq,fx,fs,q⟩:=h
 cases ry;rcases hq with hq | hq
 ·obtain ⟨its,r,pl,hz⟩:=I.list hq;refine SeqAt.in_listAt (eqU x) pl.isList (λ w hw=>mem_eqAt rx fx r fs w (by simpa using hw)) ⟨.bl _,H,I,rfl,?_⟩;rw [show its.toArray.any (eqU x)=its.any (eqU x) by simp,any_eqU r fs];exact q
 ·obtain ⟨its,r,pl,hz⟩:=I.tuple hq;refine SeqAt.in_tupleAt (eqU x) pl (λ w hw=>mem_eqAt rx fx r fs w (by simpa using hw)) ⟨.bl _,H,I,rfl,?_⟩;rw [show its.toArray.any (eqU x)=its.any (eqU x) by simp,any_eqU r fs];exact q
theorem call_len_seq:bS X (.builtin "len") (λ xs H Q=>∃ p ys,xs=[.ref p]/\(SqL X.K H p ys∨SqT X.K H p ys)/\Q (.int ys.length) H):=by
 intro pins s σ H xs us Q I r h;obtain ⟨p,ys,rfl,hq,q⟩:=h;obtain ⟨u,rfl,rx⟩:=cQ r
 cases rx;have hn:=line63;rcases hq with hq | hq
 ·obtain ⟨its,r',pl,hz⟩:=I.list hq;have hlen:=r'.length;exact Calls.call_len_list pl.isList (by simp only [eU] <;> omega) ⟨.int ys.length,H,I.tok _,⟨s.toks+1,by rw [eU,hlen]⟩,q⟩
 ·obtain ⟨its,r',pl,hz⟩:=I.tuple hq;have hlen:=r'.length;exact len_tuple pl (by simp only [eU] <;> omega) ⟨.int ys.length,H,I.tok _,⟨s.toks+1,by rw [eU,hlen]⟩,q⟩
theorem call_len_str:bS X (.builtin "len") (λ xs H Q=>∃ z,xs=[.str z]/\z.length<=sizeLine/\Q (.int z.length) H):=by
 intro pins s σ H xs us Q I r h;obtain ⟨z,rfl,hz,q⟩:=h;obtain ⟨u,rfl,t,rfl⟩:=cQ r;have hn:=line63;exact len_str (by omega) ⟨.int z.length,H,I.tok _,⟨_,rfl⟩,q⟩
theorem call_tuple_of:bS X (.type "tuple") (λ xs H Q=>∃ p ys,xs=[.ref p]/\((SqL X.K H p ys/\∀ l,H l=none->Q (.ref l) (upd H l (.tup ys)))∨(SqT X.K H p ys/\Q (.ref p) H))):=by
 intro pins s σ H xs us Q I r h;obtain ⟨p,ys,rfl,h⟩:=h;obtain ⟨u,rfl,rx⟩:=cQ r
 cases rx;rcases h with ⟨hq,q⟩ | ⟨hq,q⟩
 ·obtain ⟨its,r',pl,hz⟩:=I.list hq;have hlen:=r'.length;refine call_tuple_list pl.isList (λ h' kp=>?_) (by simp only [eU] <;> omega);have I1:Inv X pins σ H { s with heap:=h' }:=I.kept (t':=s.toks) kp
  have I2:Inv X pins σ (upd H h'.objs.size (.tup ys)) { s with heap:=h'.push { cls:=.type "tuple",data:=.seq its.toArray } }:=
   I1.laid (t':=s.toks) (λ b o e=>eA _ e) (eC _) (show ObjOk X.prog X.w _ _ _ (.tup ys) from ⟨hz,its,r',IsTup.new _ _⟩)
  exact ⟨.ref h'.objs.size,_,I2,rfl,q _ (I1.hok.fresh (eC _))⟩
 ·obtain ⟨its,r',pl,hz⟩:=I.tuple hq;exact call_tuple_same pl ⟨.ref p,H,I,rfl,q⟩
noncomputable def tyV (K:W.Frag) (T:String) (x:V) (H:Hp):Prop:=match x with
 | .str _=>T = "str"
 | .int _=>T = "int"
 | .ref p=>(T = "list"/\∃ xs,SqL K H p xs)∨(T = "tuple"/\∃ o,K.lookup p=some o/\o.cls=.type "tuple"/\o.dict=none)∨
   (T = "dict"/\((∃ kvs,H p=some (.dK kvs))∨∃ kvs,H p=some (.dT kvs)))∨(T = "set"/\∃ S n,H p=some (.set S n))
 | _=>False
theorem tyV_is {pins:List (Addr × Obj)} {σ:St} {H:Hp} {s:Shared} {T:String} {x:V} {v:Value} (I:Inv X pins σ H s) (r:RelV x v) (ty:tyV X.K T x H) :
  s.TypeIs v T/\∀ a,v=.ref a->∃ ob,s.heap.get? a=some ob/\ob.dict=none:=by
 cases x with
 | str z=>
  obtain ⟨t,rfl⟩:=r
  cases (show T = "str" from ty);exact ⟨typeIs_str s z t,λ _ e=>nomatch e⟩
 | int i=>
  obtain ⟨t,rfl⟩:=r
  cases (show T = "int" from ty);exact ⟨typeIs_int s i t,λ _ e=>nomatch e⟩
 | ref p=>
  cases r;rcases ty with ⟨rfl,xs,hq⟩ | ⟨rfl,o,hk,hc,hd⟩ | ⟨rfl,hk⟩ | ⟨rfl,S,n,hk⟩
  ·obtain ⟨its,_,pl,_⟩:=I.list hq;refine ⟨pl.isList.typeIs,λ a e=>?_⟩
   cases e;obtain ⟨o,n,e,c,hd,_⟩:=pl;exact ⟨o,e,hd⟩
  ·refine ⟨⟨o,I.kIn p o hk,hc⟩,λ a e=>?_⟩
   cases e;exact ⟨o,I.kIn _ o hk,hd⟩
  ·have z:∃ o,s.heap.get? p=some o/\o.ExactDict:=by
    rcases hk with ⟨kvs,hk⟩ | ⟨kvs,hk⟩
    ·obtain ⟨_,_,_,_,o,_,_,e,ex,_⟩:=I.hok p _ hk;exact ⟨o,e,ex⟩
    ·obtain ⟨_,_,_,_,o,_,_,e,ex,_⟩:=I.hok p _ hk;exact ⟨o,e,ex⟩
   obtain ⟨o,e,ex⟩:=z;refine ⟨⟨o,e,ex.1⟩,λ a e2=>?_⟩
   cases e2;exact ⟨o,e,ex.2.1⟩
  ·obtain ⟨o,_,_,_,e,ex,_⟩:=I.hok p _ hk;refine ⟨⟨o,e,ex.1⟩,λ a e2=>?_⟩
   cases e2;exact ⟨o,e,ex.2.1⟩
 | _=>exact False.elim ty
noncomputable def tBM0 (K:W.Frag) (T:String) (r:V->List V->Hp->VK->Prop) (to:TE):TE:=λ σ H Q=>to σ H λ x H1=>tyV K T x H1/\r x [] H1 Q
noncomputable def tBM (K:W.Frag) (T:String) (r:V->List V->Hp->VK->Prop) (to:TE) (t:TA):TE:=λ σ H Q=>to σ H λ x H1=>tyV K T x H1/\t σ H1 λ xs H2=>r x xs H2 Q
variable {o e:Expr} {es:List Expr} {to:TE} {t:TA} {name:Str} {apos cpos:Pos} {T id:String} {r:V->List V->Hp->VK->Prop}
theorem pe_bm0 (pa:PlainAttrs T) (slot:Slot T name id) (hty:typeOf (.builtin id)=pure (.type "method_descriptor")) (hm:MtR X id r) (ho:PE X o to)
  (hbase:attributeBase o name X.env (eval o X.env)=eval o X.env:=by rfl) (hline:(apos.endLine == cpos.line)=true:=by rfl):PE X (.Call (.Attribute o name apos) [] [] cpos) (tBM0 X.K T r to):=by
 intro pins s σ H Q I h;refine wpAny_Call_method0_late hbase hline (thn (ho pins s σ H _ I h) λ v s1 ⟨x,H1,I1,r1,ty,q1⟩=>?_);obtain ⟨h1,h2⟩:=tyV_is I1 r1 ty;exact ⟨T,id,pa,slot,hty,h1,h2,Calls.callWith_builtin rfl (PySem.evalArgs_none (hm pins s1 σ H1 x [] v [] Q I1 r1 .nil q1))⟩
theorem pe_bm (pa:PlainAttrs T) (slot:Slot T name id) (hty:typeOf (.builtin id)=pure (.type "method_descriptor")) (hm:MtR X id r) (ho:PE X o to) (ha:PA X (e::es) t)
  (hbase:attributeBase o name X.env (eval o X.env)=eval o X.env:=by rfl)
  (hfew:((backTo cpos (starEach (e::es) X.env)).all (λ x=>!x.1) && (backToKw cpos (keywordEach [] X.env)).all (λ x=>x.1.isSome)
   && decide ((e::es).length+([]:List Keyword).length+(if ([]:List Keyword).isEmpty then 0 else 1)<30))=true:=by rfl)
  (hline:(apos.endLine == cpos.line)=true:=by rfl) (hs:starEach (e::es) X.env=(false,eval e X.env)::starEach es X.env:=by rfl) (hplain:(backTo cpos (starEach es X.env)).any (·.1)=false:=by rfl) :
  PE X (.Call (.Attribute o name apos) (e::es) [] cpos) (tBM X.K T r to t):=by
 intro pins s σ H Q I h;refine wpAny_Call_method_late hbase hfew hline rfl (thn (ho pins s σ H _ I h) λ v s1 ⟨x,H1,I1,r1,ty,q1⟩=>?_);obtain ⟨h1,h2⟩:=tyV_is I1 r1 ty;refine ⟨T,id,pa,slot,hty,h1,h2,?_⟩;have hA:=ha cpos pins s1 σ H1 _ I1 q1;rw [hs] at hA ⊢;refine Calls.callWith_builtin (by show (false || (backTo cpos (starEach es X.env)).any (·.1))=false;rw [hplain] <;> rfl) (Calls.evalArgs_plain ?_);exact thn hA λ us s2 ⟨vs,H2,I2,r2,q2⟩=>hm pins s2 σ H2 x vs v us Q I2 r1 r2 q2
end
end L2
namespace L2
open PySem PySem.Spec PyProof.Rows
noncomputable def MtM (X:Cx) (id:String) (r:V->List V->Hp->VK->Prop):Prop:=
 ∀ (pins:List (Addr × Obj)) (s:Shared) (σ:St) (H:Hp) (x:V) (xs:List V) (v:Value) (us:List Value) (Q:VK),Inv X pins σ H s->RelV x v->Vals xs us->r x xs H Q->
  wpAny (model X.prog X.w) X.A (call (.builtin id) (v::us)) (EP X pins σ Q) X.xe s
theorem Vals.one:∀ {x:V} {us:List Value},Vals [x] us->∃ u,us=[u]/\RelV x u
 | _,_,.cons r .nil=>⟨_,rfl,r⟩
section
variable {X:Cx} {pins:List (Addr × Obj)} {σ:St} {H:Hp} {s:Shared} {l b:Addr} {xs ys zs:List V}
theorem Inv.lset {its its':List Value} {n:Nat} {f:Array Value->Array Value} {t':Nat} (I:Inv X pins σ H s) (hH:H l=some (.lst xs))
  (e:s.heap.get? l=some { cls:=.type "list",data:=.seq its.toArray n }) (hf:f its.toArray=its'.toArray) (hv:Vals ys its') (hz:ys.length<=sizeLine) :
  Inv X pins σ (upd H l (.lst ys)) { s with heap:=s.heap.update l (Obj.mapSeq f),toks:=t' }:=by
 have q:=PySem.IsL.update e f;rw [hf] at q;refine I.write (x:=l) (e:=l) (by rw [hH];exact trivial) (.inl rfl) (λ b' u hb hu=>(fK s.heap (Obj.mapSeq f) (Ne.symm hb)).trans hu) ⟨_,q⟩ ?_;exact ⟨hz,its',_,hv,q⟩
theorem Inv.lnew {its:List Value} {t':Nat} (I:Inv X pins σ H s) (hv:Vals ys its) (hz:ys.length<=sizeLine) :
  Inv X pins σ (upd H s.heap.objs.size (.lst ys)) { s with heap:=s.heap.push { cls:=.type "list",data:=.seq its.toArray },toks:=t' }:=
 I.laid (λ _ _ q=>eA _ q) (eC _) ⟨hz,its,0,hv,eM _ rfl⟩
theorem Inv.fresh (I:Inv X pins σ H s):H s.heap.objs.size=none:=I.hok.fresh (eC _)
theorem Inv.lstM (I:Inv X pins σ H s) (hH:H l=some (.lst xs)):xs.length<=sizeLine/\∃ (its:List Value) (n:Nat),Vals xs its/\xs.length=its.length/\s.heap.get? l=some { cls:=.type "list",data:=.seq its.toArray n }:=by
 obtain ⟨z,its,n,r,e⟩:=I.hok l _ hH;exact ⟨z,its,n,r,r.length,e⟩
end
section
variable {X:Cx}
inductive IrAppend (x:V) (vs:List V) (H:Hp) (Q:VK):Prop
 | mk (l:_) (xs:_) (y:_) (h1:x=.ref l) (h2:vs=[y]) (h3:H l=some (.lst xs)) (h4:xs.length<sizeLine) (h5:Q .non (upd H l (.lst (xs++[y])))):IrAppend x vs H Q
noncomputable def rAppend:V->List V->Hp->VK->Prop:=λ x vs H Q=>IrAppend x vs H Q
theorem dc:MtM X "list.append" rAppend:=by
 intro pins s σ H x vs v us Q I rx rv h;obtain ⟨l,xs,y,rfl,rfl,hH,hz,q⟩:=h
 cases rx;obtain ⟨u,rfl,ru⟩:=rv.one;obtain ⟨z,its,n,r,hl,e⟩:=I.lstM hH;refine call_meets F.slot_list_append ⟨_,e,rfl⟩ F.entry_list_append (F.args_list_append_2 _ _) (PySem.list_append l its.toArray n u (by rw [eU];omega)) ⟨e,?_⟩;refine ⟨.non,_,I.lset (its':=its++[u]) hH e (by simp) (r.append (.cons ru .nil)) ?_,rfl,q⟩;rw [fm,List.length_singleton];omega
inductive IrCat (x:V) (y:V) (H:Hp) (Q:VK):Prop
 | mk (l:_) (b:_) (xs:_) (zs:_) (h1:x=.ref l) (h2:y=.ref b) (h3:H l=some (.lst xs)) (h4:H b=some (.lst zs)) (h5:xs.length+zs.length<=sizeLine) (h6:∀ p,H p=none->Q (.ref p) (upd H p (.lst (xs++zs)))):IrCat x y H Q
noncomputable def rCat:R2:=λ x y H Q=>IrCat x y H Q
theorem op_cat:OpR X (binaryOp .Add) rCat:=by
 intro pins s σ H x y v u Q I rx ry h;obtain ⟨l,b,xs,zs,rfl,rfl,hH,hB,hz,q⟩:=h
 cases rx
 cases ry;obtain ⟨z,its,n,r,hl,e⟩:=I.lstM hH;obtain ⟨z2,its2,n2,r2,hl2,e2⟩:=I.lstM hB;refine PySem.P.add_list e e2 ?_ (by rw [eU,eU];omega);have ea:its.toArray++its2.toArray=(its++its2).toArray:=by simp
 rw [ea];exact ⟨.ref _,_,I.lnew (t':=s.toks) (r.append r2) (by rw [fm];omega),rfl,q _ I.fresh⟩
end
section
variable {prog:Program} {w:World} {A:Around} {E:Value->Shared->Prop} {s:Shared}
end
section
variable {X:Cx}
end
end L2
namespace Att
open PySem PySem.W PySem.Calls PyProof.Rows
theorem ints_of_wellAll {P:Params} {h:Heap}:∀ (ns:List Int) (vs:List Value),WellAll P h vs (ns.map WData.int)->IntsAre vs ns:=by
 intro ns
 induction ns with
 | nil=>
  intro vs w;rw [List.map_nil] at w
  cases w;exact .nil
 | cons n ns ih=>
  intro vs w;rw [fz] at w
  cases w with
  | cons a b=>
   cases a;exact .cons _ _ (ih _ b)
theorem script_of {l:OpenLaw} {n:Nat} (hn:l.most=some n) {P:Params} {h:Heap} {args:List WData} {vals:List Value}
  (hpre:l.row.toRowW.claim.pre args=true) (hwl:WellAll P h vals args) :
  ∃ a vs ns,vals=[Value.ref a]/\args=[WData.list (ns.map WData.int)]/\h.get? a=some { cls:=.type "list",data:=.seq vs.toArray }/\IntsAre vs ns/\ns.length<=n:=by
 have hsh:WShape.hasAll [] args [.list .int]=true:=(pre_splitW hpre).1;have hc:l.pre.holds [] { args:=args }=true:=(pre_splitW hpre).2;obtain ⟨d,r,rfl,h1,h2⟩:=hasAllW_cons hsh;obtain rfl:=hasAllW_nil h2;obtain ⟨xs,rfl,h3⟩:=hasW_list h1;obtain ⟨ns,rfl⟩:=items_int h3
 have hlen:ns.length<=n:=by
  unfold OpenLaw.pre at hc
  have h4:(WTm.not (.lt (.lit (.int (n:Int))) (.len (.arg 0)))).holds [] { args:=[.list (ns.map .int)] }=true:=by
   have h4:=(holds_andW hc).1;rw [hn] at h4;exact h4
  have h5:=condW_of h4 (w_not (w_lt w_lit (w_len_list (w_arg rfl))));rw [eB] at h5;refine Nat.le_of_not_lt λ q=>?_;have q':(n:Int)<((ns.length:Nat):Int):=by omega
  first
   | (rw [eK q'] at h5;exact absurd h5 (by decide))
   | (simp at h5;omega)
 cases hwl with
 | cons w1 w2=>
  cases w2
  cases w1 with
  | list ho hall=>exact ⟨_,_,ns,rfl,rfl,ho,ints_of_wellAll ns _ hall,hlen⟩
theorem post_true (l:OpenLaw) (args:List WData):l.row.toRowW.claim.post args (.bool true) args=true:=
 postW_of (r:=l.row.toRowW) (X:=(true == true))
  (show WShape.has [] (.bool true) .bool=true by first | rfl | decide | simp [WShape.has,WShape.arms,WShape.armsAll])
  (show (WTm.eq .res (.lit (.bool true))).value [] { args:=args,res:=some (.bool true),after:=args }=some (.bool (true == true)) from w_eq_bool (w_res rfl) w_lit) rfl
section
variable {prog:Program} {w:World} {A:Around} {E:Value->Shared->Prop} {s:Shared} {K:Frag}
end
end Att
namespace L2
open PySem PySem.Spec PyProof.Rows
theorem vals_ints:∀ {vs:List Value} {ns:List Int},IntsAre vs ns->Vals (ns.map V.int) vs
 | _,_,.nil=>.nil
 | _,_,.cons n t h=>.cons ⟨t,rfl⟩ (vals_ints h)
noncomputable def Only (H:Hp):Prop:=∀ b,H b=none∨∃ o xs,H b=some (.frz o (.lst xs))
theorem law_call {P:Program} {w:World} {K:W.Frag} {mg mb:Str->Option Value} {CX:CXT} {k:Nat} {fa a:Addr} {fd:FuncData} {x:Str} {sp:Sp} {s₁:Shared} {vs:List Value} {ns:List Int}
  (KX:K.In s₁.heap) (hns:s₁.heap.Ns mainGlobals mg) (hb:s₁.heap.Ns builtinsNs mb) (hbb:∀ x:Str,x≠"__name__"->mb x=bootBuiltins x) (hlim:s₁.heap.NoLimit) (hg:s₁.gens = #[])
  (ha:s₁.heap.get? a=some { cls:=.type "list",data:=.seq vs.toArray }) (hi:IntsAre vs ns) (hl:ns.length<=sizeLine) (hr:Room k callerA)
  (F:∀ base:Heap,K.In base->base.Ns mainGlobals mg->FnOk P w K mg base CX k fa fd [x] sp) (hbind:∀ (s:Shared) (u:Value),BindsTo s fd ⟨[u],[]⟩ [(x,u)])
  (hsp:∀ H:Hp,Only H->SqL K H a (ns.map V.int)->sp [.ref a] H (λ v _=>v=.bl true) λ _ _ _=>False)
  (hCX:∀ H e s',CX [] H s₁ (λ _ _ _=>False) e s'->False) :
  codeAny (model P w) callerA (.call (.ref fa) ⟨[.ref a],[]⟩) (λ r s'=>r=.ok (.ret (.bool true))/\OldK s₁.heap s'.heap/\s'.os=s₁.os/\AllBare s'.gens) s₁:=by
 have rv:=vals_ints hi;have lenV:=hi.length
 have core:∀ H:Hp,Only H->SqL K H a (ns.map V.int)->HOk P w H s₁.heap->(∀ b,H b≠none->b=a)->(H a≠none->K.lookup a=none)->
   codeAny (model P w) callerA (.call (.ref fa) ⟨[.ref a],[]⟩) (λ r s'=>r=.ok (.ret (.bool true))/\OldK s₁.heap s'.heap/\s'.os=s₁.os/\AllBare s'.gens) s₁:=by
  intro H hO hS hok hA hK;have base_of:∀ {b:Addr} {o:Obj},s₁.heap.get? b=some o->H b=none->(hidT s₁.heap H).get? b=some o:=λ e n=>hidT_get e n
  have noA:∀ {b:Addr} {o:Obj} {es:Array DictEntry} {ep:Nat},s₁.heap.get? b=some o->o.data=.dict es ep->H b=none:=λ {b o es ep} e d=>by
   cases q:H b with
   | none=>rfl
   | some u=>
    have e':b=a:=hA b (by rw [q];simp);subst e';rw [ha] at e;cases e;have d':Data.seq vs.toArray _=Data.dict es ep:=d
    cases d'
  have nsK:∀ {b:Addr} {m:Str->Option Value},s₁.heap.Ns b m->(hidT s₁.heap H).Ns b m:=λ {b m} ⟨o,es,ep,e,d,r⟩=>⟨o,es,ep,base_of e (noA e d),d,r⟩
  have hKb:K.In (hidT s₁.heap H):=λ b o e=>base_of (KX b o e) (by
   cases q:H b with
   | none=>rfl
   | some u=>
    have e':b=a:=hA b (by rw [q];simp);subst e';rw [hK (by rw [q];simp)] at e;cases e)
  have hM:Mod K mg (hidT s₁.heap H):=⟨hKb,nsK hns,⟨mb,nsK hb,hbb⟩,let ⟨mc,h1,h2⟩:=hlim;⟨mc,nsK h1,h2⟩⟩;have e0:Env0 P w K mg (hidT s₁.heap H) callerA [] s₁ H:=⟨rfl,hM,λ b o e=>of_hidT e,Nat.le_of_eq (hidT_size _ _),trivial,λ b hb=>absurd (show b∈([]:List Addr) from hb) (by simp),hok,.of_eq hg⟩;refine codeAny_mono ((F _ hKb (nsK hns)).run callerA [] s₁ H ⟨[.ref a],[]⟩ [.ref a] [.ref a] _ _ hr e0 (hbind s₁ (.ref a)) (.cons rfl .nil) (hsp H hO hS)) λ r s' h=>?_
  cases r with
  | error e=>exact (hCX H e s' h).elim
  | ok fl=>
   cases fl with
   | next=>exact False.elim h
   | brk=>exact False.elim h
   | cont=>exact False.elim h
   | ret u=>
    obtain ⟨v,H',os,bare,un,hok',r',q⟩:=h;have q':v=.bl true:=q;subst q';obtain rfl:u=Value.bool true:=r';refine ⟨rfl,OldK.of_keep λ b o e=>?_,os,bare⟩
    cases q:H b with
    | none=>exact un.keep b o e q (by intro z;exact absurd (show b∈([]:List Addr) from z) (by simp)) (by simp)
    | some u=>
     rcases hO b with z | ⟨ob,xs,z⟩
     ·rw [q] at z;cases z
     ·have z2:=un.frzs b ob _ z;obtain ⟨e1,_⟩:=hok b _ z;obtain ⟨e2,_⟩:=hok' b _ z2;rw [e] at e1;cases e1;exact e2
 cases hk:K.lookup a with
 | some o=>
  have e:=KX a o hk;rw [ha] at e
  cases e;refine core (λ _=>none) (λ _=>.inl rfl) (.inr ⟨_,vs.toArray,_,hk,rfl,rfl,rfl,by rw [eU,lenV];exact hl,by simpa using rv⟩) (λ b u z=>by have z':(none:Option HO)=some u:=z;cases z') (λ b z=>absurd rfl z) λ z=>absurd rfl z
 | none=>
  refine core (λ b=>if b=a then some (.frz { cls:=.type "list",data:=.seq vs.toArray } (.lst (ns.map V.int))) else none) (λ b=>?_) (.inl (.inr ⟨{ cls:=.type "list",data:=.seq vs.toArray },if_pos rfl⟩)) (λ b u z=>?_) (λ b z=>?_) λ _=>hk
  ·by_cases hb:b=a
   ·exact .inr ⟨_,_,if_pos hb⟩
   ·exact .inl (if_neg hb)
  ·by_cases hb:b=a
   ·have z':=(if_pos hb).symm.trans z
    cases z';subst hb;exact ⟨ha,by rw [eB];exact hl,vs,_,rv,ha⟩
   ·have z':=(if_neg hb).symm.trans z
    cases z'
  ·by_cases hb:b=a
   ·exact hb
   ·exact absurd (if_neg hb) z
end L2
namespace L2
open PySem PySem.Spec PyProof.Rows
end L2
namespace L2
open PySem PySem.Spec PyProof.Rows
noncomputable def ar (s:Stmt) (j:Nat):Stmt:=match s with
 | .ClassDef _ _ _ body _ _ _ _ _ _ _=>body.getD j (.Pass ⟨0,0,0,0⟩)
 | _=>.Pass ⟨0,0,0,0⟩
noncomputable def bE (s:Stmt):Arguments:=match s with
 | .FunctionDef _ a _ _ _ _ _ _ _ _=>a
 | _=>{ posonlyargs:=[],args:=[],vararg:=none,kwonlyargs:=[],kw_defaults:=[],kwarg:=none,defaults:=[] }
noncomputable def aS (s:Stmt):List Stmt:=match s with
 | .FunctionDef _ _ b _ _ _ _ _ _ _=>b
 | _=>[]
noncomputable def ah (s:Stmt):Scope:=match s with
 | .FunctionDef _ _ _ _ _ _ sc _ _ _=>sc
 | _=>{ kind:=.function,names:=[],isGenerator:=false,isCoroutine:=false }
noncomputable abbrev CX0:CXT:=λ _ _ _ _ _ _=>False
noncomputable abbrev E0:XK:=λ _ _ _=>False
theorem aC {X:Cx}:bw CX0 X E0:=λ _ _ _ _ _ _ _ h=>h.elim
structure Fun (K:W.Frag) (x qual:Str) (st:Stmt) (f:Addr) (fd:FuncData):Prop where
 ex:∃ (oc:Value) (od:Option Addr) (kV doc pm:Value) (an:Option Addr) (cdv ct:Value) (osl:Array (Option Value)),
  fd=PySem.W.fnOf x qual (bE st) (aS st) (ah st) .none kV doc pm an cdv ct/\K.lookup f=some ⟨oc,od,.func fd,osl⟩/\PySem.W.codeIn K cdv qual=true
 kp:PySem.W.keepIn K (.ref f)=true
section
variable {P:Program} {w:World} {K:W.Frag} {mg:Str->Option Value} {base:Heap}
theorem Fun.ok {x qual:Str} {st:Stmt} {f:Addr} {fd:FuncData} {N ps:List Str} {k:Nat} {sp:Sp} (F:Fun K x qual st f fd) (S:FnScope N ps (ah st)) (len:∀ vs H Q E,sp vs H Q E->vs.length=ps.length)
  (hbody:∀ (cdv:Value) (A:Around) (outer:List Env) (s:Shared) (H:Hp) (vs:List V) (Q:VK) (E:XK),Room k (A.deeper (envOfC qual (ah st) s.heap.objs.size f cdv))->sp vs H Q E->
   ∃ t,PSs (aL CX0 P w K mg base N qual (ah st) f cdv A outer s H E).nox (aS st) t/\t { nx:=λ _ H'=>Q .non H',rt:=Q } (bM N vs) H):FnOk P w K mg base CX0 (k+1) f fd ps sp:=by
 obtain ⟨oc,od,kV,doc,pm,an,cdv,ct,osl,rfl,lk,hcd⟩:=F.ex;refine fn_of lk hcd S len λ A outer s H vs Q E hr hsp=>?_;obtain ⟨t,h,q⟩:=hbody cdv A outer s H vs Q E hr hsp;exact ⟨t,h.nox,q⟩
theorem Fun.binds {x qual:Str} {st:Stmt} {f:Addr} {fd:FuncData} {ps:List Str} (F:Fun K x qual st f fd)
  (h:∀ (kV doc pm:Value) (an:Option Addr) (cdv ct:Value) (us:List Value),us.length=ps.length->bindArgs (PySem.W.fnOf x qual (bE st) (aS st) (ah st) .none kV doc pm an cdv ct) ⟨us,[]⟩=pure (ps.zip us)):Binds K fd ps []:=by
 obtain ⟨oc,od,kV,doc,pm,an,cdv,ct,osl,rfl,lk,hcd⟩:=F.ex;exact .all (h kV doc pm an cdv ct)
theorem fun_mk {x qual:Str} {st:Stmt} {f:Addr} {oc:Value} {od an:Option Addr} {osl:Array (Option Value)} {kV doc pm cdv ct:Value} (l:K.lookup f=some ⟨oc,od,.func (PySem.W.fnOf x qual (bE st) (aS st) (ah st) .none kV doc pm an cdv ct),osl⟩)
  (c:PySem.W.codeIn K cdv qual=true) (k:PySem.W.keepIn K (.ref f)=true):Fun K x qual st f (PySem.W.fnOf x qual (bE st) (aS st) (ah st) .none kV doc pm an cdv ct):=⟨⟨oc,od,kV,doc,pm,an,cdv,ct,osl,rfl,l,c⟩,k⟩
end
theorem bd {A:Around} {k:Nat} (hr:Room k A):A.units+1<cLine:=eS (Nat.add_le_add_left (by decide:1<=64) _) hr.units
theorem a9 {n:Nat} (h:n<=1000):n<sizeLine:=eS h (by decide)
section
variable {X:Cx}
theorem pv (i:Nat) {x:Str} {pos:Pos} (hN:X.N[i]?=some x:=by rfl) (hv:Vis X.env.scope x:=by first | exact Or.inl rfl | exact Or.inr (Or.inl rfl) | exact Or.inr (Or.inr rfl)) (hd:(x == ("__debug__":Str))=false:=by decide)
  (hcd:(x == ("__classdict__":Str))=false:=by decide):PE X (.Name x pos) (tVar i):=pe_var hN hv hd hcd
end
theorem iteF {A B:Prop} (h:B):if false=true then A else B:=by
 rw [if_neg eO];exact h
theorem iteT {A B:Prop} (h:A):if true=true then A else B:=by
 rw [if_pos rfl];exact h
theorem ite2 {c A B:Prop} [Decidable c] (h1:c->A) (h2:¬ c->B):if c then A else B:=by
 by_cases h:c
 ·rw [if_pos h];exact h1 h
 ·rw [if_neg h];exact h2 h
theorem iteNS {c A B:Prop} [Decidable c] (hc:c) (h:B):if (!decide c)=true then A else B:=by
 rw [eK hc];exact iteF h
noncomputable def Same (H H':Hp):Prop:=∀ b o,H b=some o->H' b=some o
theorem Same.refl (H:Hp):Same H H:=λ _ _ h=>h
theorem Same.trans {H H1 H2:Hp} (a:Same H H1) (b:Same H1 H2):Same H H2:=λ c o h=>b c o (a c o h)
theorem Same.free {H H':Hp} (e:Same H H') {l:Addr} (h:H' l=Option.none):H l=Option.none:=by
 cases q:H l with
 | none=>rfl
 | some o=>
  rw [e l o q] at h
  cases h
theorem Same.seq {K:W.Frag} {H H':Hp} {a:Addr} {xs:List V} (e:Same H H') (h:SqL K H a xs):SqL K H' a xs:=by
 rcases h with (h | ⟨o,h⟩) | h
 ·exact .inl (.inl (e _ _ h))
 ·exact .inl (.inr ⟨o,e _ _ h⟩)
 ·exact .inr h
end L2
set_option maxHeartbeats 4000000
set_option exponentiation.threshold 300
namespace L2
open PySem PySem.Spec PyProof.Rows
section
variable {X:Cx}
theorem bits_le {k:Int} {n:Nat} (h:k.natAbs<2 ^ n):Builtin.Int.intBits k<=n:=by
 unfold Builtin.Int.intBits
 split
 ·exact fP _
 ·rename_i h0
  have hz:k.natAbs≠0:=by
   intro z;apply h0
   have:k=0:=by omega
   simp [this]
  have:k.natAbs.log2<n:=(Nat.log2_lt hz).mpr h
  omega
noncomputable def CMulB (i j:Int):Prop:=i.natAbs<2 ^ 9000/\j.natAbs<2 ^ 9000
theorem CMulB.ok {i j:Int} (h:CMulB i j):IntMulOk i j:=by
 refine IntMulOk.of_bits (eQ (bits_le h.1) (by decide)) (eQ (bits_le h.2) (by decide))
theorem op_mulB:OpR X (binaryOp .Mult) (rI CMulB λ i j=>.int (i*j)):=opI λ _ _ _ _ _ _ _ hc q=>mul_int q hc.ok
noncomputable def CDivB (_ j:Int):Prop:=j≠0/\j.natAbs<2 ^ 9000
theorem CDivB.ok {i j:Int} (h:CDivB i j):Builtin.divisionGoesByPylong i j=false:=
 PyProof.noPylong_of_log2 ((Nat.log2_lt (by have:=h.1;omega)).mpr h.2)
theorem op_fdivB:OpR X (binaryOp .FloorDiv) (rI CDivB λ i j=>.int (i.fdiv j)):=opI λ _ _ _ _ _ _ _ hc q=>floordiv_int hc.1 q (.inl hc.ok)
inductive IrIsI (K:W.Frag) (c:Value) (vs:List V) (H:Hp) (Q:VK):Prop
 | mk (x:_) (y:_) (t:_) (b:_) (h1:vs=[x,y]) (h2:(∀ u,RelV y u->u=c)) (h3:TyOf K H x t) (h4:PySem.W.kitOne K t c=some b) (h5:Q (.bl b) H):IrIsI K c vs H Q
noncomputable def rIsI (K:W.Frag) (c:Value):List V->Hp->VK->Prop:=λ vs H Q=>IrIsI K c vs H Q
theorem c8 {c:Value}:bS X (.builtin "isinstance") (rIsI X.K c):=by
 intro pins s σ H xs us Q I r h;obtain ⟨x,y,t,b,rfl,hc,ty,e,q⟩:=h
 cases r with
 | cons r1 r2=>
  cases r2 with
  | cons r3 r4=>
   cases r4
   have:=hc _ r3
   subst this;exact isinst_ok I r1 ty e λ tk=>⟨.bl b,H,I.tok tk,rfl,q⟩
end
section
variable {X:Cx}
noncomputable def bA (X:Cx) (pins:List (Addr × Obj)) (N':List Str) (scope:Scope) (cl:List (Str × Addr)) (C:Addr) (fp:List Addr) (s:Shared) (H:Hp):Cx:=
 { X with N:=N',s₀:=s,H₀:=H,env:=compEnvC scope cl C X.env,outer:=X.stack,stack:=X.stack,ex:=fp,fn:=λ _=>false,pn:=X.pn++pins,xe:=λ _ _=>False }
structure Clos (X:Cx) (scope:Scope) (cl:List (Str × Addr)):Prop where
 clos:closureFor scope X.env=pure cl
 sub:∀ y c,cl.lookup y=some c->X.env.cells.lookup y=some c
 has:∀ y,((relabel scope X.env).names.lookup y=some .cell∨(relabel scope X.env).names.lookup y=some .free)->∃ c,cl.lookup y=some c
theorem relabel_none {scope:Scope} {env:Env} (hf:∀ x∈scope.names,x.2≠.free):relabel scope env=scope:=by
 unfold relabel
 have:(scope.names.map λ(n,k)=>if (k == NameKind.free && env.scope.kind == .function && env.kindOf n == some .cell) then (n,NameKind.cell) else (n,k))=scope.names:=by
  refine map_eq_self λ x hx=>?_;obtain ⟨n,k⟩:=x;have h1:(k == NameKind.free)=false:=by simpa using hf _ hx
  simp [h1]
 rw [this]
theorem Clos.none {scope:Scope} (hf:∀ x∈scope.names,x.2≠.free) (hc:∀ x∈scope.names,x.2≠.cell):Clos X scope []:=by
 refine ⟨closureFor_none hf,λ y c h=>by simp at h,λ y h=>?_⟩;rw [relabel_none hf] at h;rcases h with h | h
 ·exact absurd rfl (hc _ (fB h))
 ·exact absurd rfl (hf _ (fB h))
noncomputable def Reads (X:Cx) (scope:Scope) (rest:List Str) (sel:St->St):Prop:=
 ∀ σ,(sel σ).length=rest.length/\∀ (i:Nat) (y:Str) (v:V),rest[i]?=some y->(sel σ)[i]?=some (some v)->∃ j:Nat,X.N[j]?=some y/\σ[j]?=some (some v)/\X.env.scope.names.lookup y=some .cell/\(relabel scope X.env).names.lookup y=some .cell
end
end L2
namespace L2
open PySem PySem.Spec PyProof.Rows
theorem ifV {k m:Int} {A B:Prop} (h1:k=m->A) (h2:k≠m->B):if decide (V.int k=V.int m)=true then A else B:=by
 by_cases h:k=m
 ·rw [if_pos (by rw [h];exact eK rfl)];exact h1 h
 ·rw [if_neg (by rw [eD (by intro z;exact h (V.int.inj z))];decide)];exact h2 h
theorem ifB {c A B:Prop} [Decidable c] (h1:c->A) (h2:¬ c->B):if decide c=true then A else B:=by
 by_cases h:c
 ·rw [if_pos (eK h)];exact h1 h
 ·rw [if_neg (by rw [eD h];decide)];exact h2 h
theorem bY {c:Bool} {A B:Prop} (h:c=true) (a:A):if c=true then A else B:=by
 rw [if_pos h];exact a
theorem aU {c:Bool} {A B:Prop} (h:c=false) (b:B):if c=true then A else B:=by
 rw [if_neg (by rw [h];decide)];exact b
theorem neV {k m:Int} (h:k≠m):decide (V.int k=V.int m)=false:=eD (by intro z;exact h (V.int.inj z))
end L2
namespace L2
open PySem PySem.Spec PyProof.Rows
section
variable {X:Cx} {st:Stmt} {rest:List Stmt} {t u:TS}
noncomputable def tCut (t u:TS):TS:=λ D σ H=>∃ M:St->Hp->Prop,t { D with nx:=M } σ H/\∀ σ' H',M σ' H'->u D σ' H'
theorem aM (h1:PS X st t) (h2:PSs X rest u):PSs X (st::rest) (tCut t u):=by
 intro pins s σ H D I ⟨M,h,hM⟩;refine wpAny_execs_cons (thn (h1 pins s σ H { D with nx:=M } I h) λ f s1 q=>?_)
 cases f with
 | next=>
  obtain ⟨σ',H',I',q⟩:=q;exact h2 pins s1 σ' H' D I' (hM σ' H' q)
 | ret v=>exact q
 | brk=>exact q
 | cont=>exact q
end
theorem cf {t u:TS} {D:Ends} {σ:St} {H:Hp} (M:St->Hp->Prop) (h1:t { D with nx:=M } σ H) (h2:∀ U:TS,U=u->∀ σ' H',M σ' H'->U D σ' H'):tCut t u D σ H:=⟨M,h1,h2 u rfl⟩
theorem keepG {p:Prop} (h:p):p:=h
noncomputable def rLen (K:W.Frag):List V->Hp->VK->Prop:=λ xs H Q=>∃ p ys,xs=[.ref p]/\(SqL K H p ys∨SqT K H p ys)/\Q (.int ys.length) H
theorem cB {X:Cx}:bS X (.builtin "len") (rLen X.K):=call_len_seq
end L2
namespace L2
open PySem
noncomputable def Trail (h:Heap) (e:Addr) (vs:Array Value):Option Addr->Prop
 | none=>vs[1]?=some .none
 | some T=>vs[1]?=some (.ref T)/\T≠e/\∃ oT ts,h.get? T=some oT/\oT.data=.fields ts/\ts[3]?=some .none
structure Noted (l:List Env) (e:Addr) (oe:Obj) (vs:Array Value) (tr:Option Addr) (h h':Heap):Prop where
 exc:∃ vs' T,h'.get? e=some { oe with data:=.fields vs' }/\vs'[0]?=vs[0]?/\h.objs.size<=T/\Trail h' e vs' (some T)
 keep:∀ b o,b≠e->tr≠some b->b ∉ l.filterMap (·.frame)->h.get? b=some o->h'.get? b=some o
 slot:∀ b o,b≠e->tr≠some b->b∈l.filterMap (·.frame)->h.get? b=some o->∃ sl,h'.get? b=some { o with slots:=sl }
section
variable {M:Model} {A:Around} {E:Value->Shared->Prop} {s:Shared} {base:Heap} {env:Env} {outer:List Env} {L e:Addr} {oe:Obj} {vs:Array Value} {Q:Unit->Shared->Prop}
theorem mapFields_eq {o:Obj} {ws:Array Value} (hd:o.data=.fields ws) (f:Array Value->Array Value):Obj.mapFields f o = { o with data:=.fields (f ws) }:=by
 obtain ⟨c,d,dt,sl⟩:=o
 cases hd;rfl
theorem entry_core {head:Value} {hadNext:Bool} (hfr:A.frames=some (env::outer)) (hl:s.heap.FunFrames base (env::outer)) (hf:env.frame=some L)
  (he:s.heap.get? e=some oe) (hd:oe.data=.fields vs) (hsz:1<vs.size) (h:∀ h',Noted (env::outer) e oe vs none s.heap h'->Q () { s with heap:=h' }) :
  wpAny M A (do let a <- frameOf env;let pl <- entryPlaceOf L hadNext;let b <- EntryCells.newEntry head a .none (rawInt L) .none pl;setField (.ref e) 1 b) (λ _ s'=>wpAny M A (setFlight (.ref e) none) Q E s') E s:=by
 have ne:∀ b∈(env::outer).filterMap (·.frame),b≠e:=λ b hm z=>by
  obtain ⟨_,o,ho,hnf⟩:=hl.mem hm;rw [z,he] at ho
  cases ho;exact hnf vs hd
 refine eo (wpAny_frameOf_fun hfr hl hf λ h₁ hs₁=>eo (wpAny_entryPlaceOf λ pl hpl=>?_));unfold EntryCells.newEntry newFields;refine eo (wpAny_newObj_type ?_ (hpl.sizeOk5 _ _ _ _ _));have a₁:h₁.get? e=some oe:=(hs₁.2.1 e λ hm=>ne e hm rfl).trans he;generalize hot:({ cls:=.type "traceback",dict:=none,data:=.fields ([head,.ref L,.none,rawInt L,.none]++(if pl.isEmpty then List.replicate 6 Value.none else pl)).toArray }:Obj)=ot;have fr:ot.isFreed=false:=by rw [<- hot];rfl
 obtain ⟨ts,hts,h3⟩:∃ ts:Array Value,ot.data=.fields ts/\3<ts.size:=by
  refine ⟨_,by rw [<- hot],?_⟩;simp only [eU,fm,eV,List.length_nil];omega
 have a₂:=eA (h:=h₁) ot a₁;refine wpAny_setField a₂ hd hsz ?_;have nT:h₁.objs.size≠e:=Nat.ne_of_gt (eL a₁);have d₃:=Obj.data_mapFields hd (·.setIfInBounds 1 (Value.ref h₁.objs.size));have a₃:=Heap.get?_update_self (Obj.mapFields (·.setIfInBounds 1 (Value.ref h₁.objs.size))) a₂ (Obj.isFreed_of_fields d₃);have t₃:=(fK (h₁.push ot) (Obj.mapFields (·.setIfInBounds 1 (Value.ref h₁.objs.size))) (Ne.symm nT)).trans (eM h₁ fr);unfold setFlight;refine eo (fG a₃ d₃ (x:=.ref h₁.objs.size) (by simp [hsz]) ?_);rw [if_pos (show (Value.ref h₁.objs.size != Value.none)=true from by simp)];refine wpAny_setField t₃ hts h3 (h _ ?_)
 have old:∀ b o,b≠e->h₁.get? b=some o->(((h₁.push ot).update e (Obj.mapFields (·.setIfInBounds 1 (Value.ref h₁.objs.size)))).update h₁.objs.size (Obj.mapFields (·.setIfInBounds 3 Value.none))).get? b=some o:=λ b o hb q=>by
  rw [fK _ _ (Nat.ne_of_gt (eL q)),fK _ _ (Ne.symm hb)];exact eA _ q
 have e₄:=(fK ((h₁.push ot).update e (Obj.mapFields (·.setIfInBounds 1 (Value.ref h₁.objs.size)))) (Obj.mapFields (·.setIfInBounds 3 Value.none)) nT).trans a₃;have t₄:=Heap.get?_update_self (Obj.mapFields (·.setIfInBounds 3 Value.none)) t₃ (Obj.isFreed_of_fields (Obj.data_mapFields hts _));refine ⟨⟨_,h₁.objs.size,by rw [mapFields_eq hd] at e₄;exact e₄,by rw [Array.getElem?_setIfInBounds_ne (by decide)],?_,by simp [hsz],nT,_,_,t₄,Obj.data_mapFields hts _,by simp [h3]⟩,λ b o nb _ hb q=>?_,λ b o nb _ hb q=>?_⟩
 ·exact Nat.le_of_eq hs₁.1.symm
 ·exact old b o nb ((hs₁.2.1 b hb).trans q)
 ·obtain ⟨sl,q₁⟩:=hs₁.2.2 b o q;exact ⟨sl,old b _ nb q₁⟩
theorem noted_ok {tr:Option Addr} (hfr:A.frames=some (env::outer)) (hl:s.heap.FunFrames base (env::outer)) (hf:env.frame=some L)
  (he:s.heap.get? e=some oe) (hd:oe.data=.fields vs) (ht:Trail s.heap e vs tr) (h:∀ h',Noted (env::outer) e oe vs tr s.heap h'->Q () { s with heap:=h' }) :
  wpAny M A (noteFrame (.ref e) env) (λ _ s'=>wpAny M A (setFlight (.ref e) none) Q E s') E s:=by
 unfold noteFrame;simp only [hf]
 cases tr with
 | none=>
  have ht:vs[1]?=some .none:=ht;refine eo (fG he hd ht ?_);rw [if_neg (by decide)];exact entry_core hfr hl hf he hd (fS.mp ht).1 h
 | some T=>
  obtain ⟨h1,nT,oT,ts,gT,dT,h3⟩:=ht;refine eo (fG he hd h1 ?_);rw [if_pos (show (Value.ref T != Value.none)=true from by simp)];refine eo (fG gT dT h3 ?_);rw [if_neg (show ¬ ((Value.none == rawInt L)=true) from by simp [rawInt])];refine eo (wpAny_setField gT dT (fS.mp h3).1 ?_);have oth:∀ b,b≠T->(s.heap.update T (Obj.mapFields (·.setIfInBounds 3 Value.none))).get? b=s.heap.get? b:=λ b hb=>fK _ _ (Ne.symm hb)
  have nr:∀ b o,s.heap.get? b=some o->(∀ ws,o.data≠.fields ws)->b≠T:=λ b o hb hn q=>by
   rw [q,gT] at hb
   cases hb;exact hn ts dT
  refine entry_core hfr (hl.of_keeps λ b o hb hn=>⟨o,(oth b (nr b o hb hn)).trans hb,rfl⟩) hf ((oth e (Ne.symm nT)).trans he) hd (fS.mp h1).1 λ h' N=>h h' ⟨?_,?_,?_⟩
  ·obtain ⟨vs',T',q1,q2,q3,q4⟩:=N.exc;exact ⟨vs',T',q1,q2,by rw [Heap.size_after_update] at q3;exact q3,q4⟩
  ·intro b o nb nt hb q;exact N.keep b o nb (by intro z;cases z) hb ((oth b λ z=>nt (by rw [z])).trans q)
  ·intro b o nb nt hb q;exact N.slot b o nb (by intro z;cases z) hb ((oth b λ z=>nt (by rw [z])).trans q)
theorem leaving_ok {tr:Option Addr} (hfr:A.frames=some (env::outer)) (hl:s.heap.FunFrames base (env::outer)) (hf:env.frame=some L)
  (he:s.heap.get? e=some oe) (hd:oe.data=.fields vs) (ht:Trail s.heap e vs tr) (h:∀ h',Noted (env::outer) e oe vs tr s.heap h'->Q () { s with heap:=h' }) :
  wpAny M A (leaving env (.ref e)) Q E s:=by
 unfold leaving;exact eo (noted_ok hfr hl hf he hd ht h)
end
end L2
namespace L2
open PySem PySem.Spec PyProof.Rows
section
variable {P:Program} {w:World} {H:Hp} {h:Heap} {a:Addr} {o:HO}
theorem ObjOk.there (x:ObjOk P w H h a o):∃ ob,h.get? a=some ob:=by
 cases o with
 | lst xs=>obtain ⟨_,_,_,_,e⟩:=x;exact ⟨_,e⟩
 | tup xs=>obtain ⟨_,_,_,⟨_,e,_⟩⟩:=x;exact ⟨_,e⟩
 | dK kvs=>obtain ⟨_,_,_,_,o,_,_,e,_⟩:=x;exact ⟨_,e⟩
 | dT kvs=>obtain ⟨_,_,_,_,o,_,_,e,_⟩:=x;exact ⟨_,e⟩
 | set S n=>obtain ⟨o,_,_,_,e,_⟩:=x;exact ⟨_,e⟩
 | ins C dx fs=>obtain ⟨_,_,_,e,_⟩:=x;exact ⟨_,e⟩
 | own y=>exact x
 | xd fs=>obtain ⟨_,⟨_,_,_,e,_⟩,_⟩:=x;exact ⟨_,e⟩
 | rng lo hi=>obtain ⟨_,_,_,e⟩:=x;exact ⟨_,e⟩
 | frz ob u=>obtain ⟨e,_⟩:=x;exact ⟨_,e⟩
 | tbl ps=>exact ⟨_,(show h.get? a=some _ from x)⟩
 | met f y=>exact ⟨_,(show h.get? a=some _ from x)⟩
 | ext φ=>obtain ⟨_,e,_⟩:=x;exact e
theorem HOk.noObj (x:HOk P w H h) (e:h.get? a=none):H a=none:=by
 cases q:H a with
 | none=>rfl
 | some o=>
  obtain ⟨ob,z⟩:=(x a o q).there;rw [e] at z
  cases z
end
section
variable {X:Cx} {pins:List (Addr × Obj)} {σ:St} {H H':Hp} {s s':Shared} {h':Heap}
noncomputable def Off (X:Cx) (pins:List (Addr × Obj)) (b:Addr):Prop:=
 X.s₀.heap.get? b=none/\b≠X.env.locals/\b ∉ X.fs/\(∀ x c,X.env.cells.lookup x=some c->c≠b)/\∀ p∈X.pn++pins,p.1≠b
theorem Inv.off {b:Addr} (I:Inv X pins σ H s) (hex:X.ex=[]) (hb:s.heap.get? b=none):Off X pins b:=by
 have no:∀ {c:Addr} {o:Obj},s.heap.get? c=some o->c≠b:=λ e z=>by rw [z,hb] at e;cases e
 refine ⟨?_,λ z=>?_,λ z=>?_,λ x c e=>?_,λ p hp=>no (I.pin p hp).1⟩
 ·cases q:X.s₀.heap.get? b with
  | none=>rfl
  | some o=>
   obtain ⟨o',e⟩:=I.base.there b o q (by rw [hex];simp);rw [hb] at e
   cases e
 ·obtain ⟨m,⟨o,_,_,e,_⟩,_⟩:=I.loc;exact no e z.symm
 ·obtain ⟨_,o,e,_⟩:=I.funs.mem z;exact no e rfl
 ·obtain ⟨v,o,q,_⟩:=I.cell x c e;exact no q
theorem Inv.stepO {ch:List Addr} (I:Inv X pins σ H s) (hch:∀ b∈ch,Off X pins b)
  (keep:∀ b o,b≠X.env.locals->b ∉ X.fs->b ∉ ch->s.heap.get? b=some o->H b=none->h'.get? b=some o)
  (slot:∀ b o,b≠X.env.locals->b∈X.fs->b ∉ ch->s.heap.get? b=some o->H b=none->∃ sl,h'.get? b=some { o with slots:=sl }) (free:∀ b o,b ∉ ch->s.heap.get? b=some o->H b=none->H' b=none)
  (there:∀ b o,b ∉ ch->s.heap.get? b=some o->∃ o',h'.get? b=some o')
  (tups:∀ b xs,H b=some (.tup xs)->H' b=some (.tup xs)) (frzs:∀ b o u,H b=some (.frz o u)->H' b=some (.frz o u)) (tbls:∀ b ps,H b=some (.tbl ps)->∃ more,H' b=some (.tbl (ps++more)))
  (ns:∀ m,s.heap.Ns X.env.locals m->h'.Ns X.env.locals m) (hok:HOk X.prog X.w H' h') :
  Inv X pins σ H' { s with heap:=h' }:=by
 have neL:∀ b o,X.s₀.heap.get? b=some o->b≠X.env.locals:=λ b o e=>fg (eP (eL e) I.ok.above);have neC:∀ b o,X.s₀.heap.get? b=some o->b ∉ ch:=λ b o e hb=>by rw [(hch b hb).1] at e;cases e
 have cellK:∀ x c,X.env.cells.lookup x=some c->∀ v,s.heap.IsCell c v->h'.IsCell c v:=λ x c e v ⟨o,ho,hd⟩=>by
  have nch:c ∉ ch:=λ z=>(hch c z).2.2.2.1 x c e rfl;by_cases hc:c∈X.fs
  ·obtain ⟨sl,q⟩:=slot c o (I.cne x c e) hc nch ho (I.freeC x c e);exact ⟨_,q,hd⟩
  ·exact ⟨o,keep c o (I.cne x c e) hc nch ho (I.freeC x c e),hd⟩
 refine ⟨I.ok,I.os,I.bare,⟨λ b o e n hb hx=>?_,λ b o e n hb hx=>?_,λ b o e n hx=>?_,λ b o e hx=>?_,λ b xs e=>tups b xs (I.base.tups b xs e),λ b o xs e=>frzs b o xs (I.base.frzs b o xs e),λ b ps e=>?_⟩,?_,λ x c e=>?_,?_,λ x c e=>?_,λ p hp=>?_,hok,I.len⟩
 ·exact keep b o (neL b o e) hb (neC b o e) (I.base.keep b o e n hb hx) (I.base.free b o e n hx)
 ·obtain ⟨sl,e1⟩:=I.base.slot b o e n hb hx;obtain ⟨sl',e2⟩:=slot b _ (neL b o e) hb (neC b o e) e1 (I.base.free b o e n hx);exact ⟨sl',e2⟩
 ·obtain ⟨o',e1⟩:=I.base.there b o e hx;exact free b o' (neC b o e) e1 (I.base.free b o e n hx)
 ·obtain ⟨o',e1⟩:=I.base.there b o e hx;exact there b o' (neC b o e) e1
 ·obtain ⟨m1,e1⟩:=I.base.tbls b ps e;obtain ⟨m2,e2⟩:=tbls b _ e1;exact ⟨m1++m2,by rw [e2,Array.append_assoc]⟩
 ·obtain ⟨m,hn,hl⟩:=I.loc;refine ⟨m,ns m hn,λ i x v e1 e2 e3=>?_⟩;obtain ⟨u,r,l⟩:=hl i x v e1 e2 e3;refine ⟨u,r,?_⟩;rcases l with l | ⟨k,c,e,z⟩
  ·exact .inl l
  ·exact .inr ⟨k,c,e,cellK x c e _ z⟩
 ·obtain ⟨v,z⟩:=I.cell x c e;exact ⟨v,cellK x c e v z⟩
 ·obtain ⟨m,⟨o,_,_,ho,_⟩,_⟩:=I.loc;exact free _ o (λ z=>(hch _ z).2.1 rfl) ho I.free
 ·obtain ⟨v,o,ho,hd⟩:=I.cell x c e;exact free c o (λ z=>(hch c z).2.2.2.1 x c e rfl) ho (I.freeC x c e)
 ·obtain ⟨e,n,ne,nf,d⟩:=I.pin p hp;have nch:p.1 ∉ ch:=λ z=>(hch p.1 z).2.2.2.2 p hp rfl;exact ⟨keep p.1 p.2 ne nf nch e n,free p.1 p.2 nch e n,ne,nf,d⟩
theorem Inv.noted {e:Addr} {oe:Obj} {vs:Array Value} {tr:Option Addr} (I:Inv X pins σ H s) (hH:H e=none) (ho:Off X pins e) (ht:∀ T,tr=some T->H T=none/\Off X pins T)
  (N:Noted X.stack e oe vs tr s.heap h'):Inv X pins σ H { s with heap:=h' }:=by
 have any:∀ b o,b ∉ e::tr.toList->s.heap.get? b=some o->∃ sl,h'.get? b=some { o with slots:=sl }:=λ b o hb q=>by
  have n1:b≠e:=λ z=>hb (by rw [z];exact eY);have n2:tr≠some b:=λ z=>hb (eW _ (by rw [z];simp));by_cases hs:b∈frs X.stack
  ·exact N.slot b o n1 n2 hs q
  ·exact ⟨o.slots,N.keep b o n1 n2 hs q⟩
 have kp:∀ b o,b≠X.env.locals->b ∉ X.fs->b ∉ e::tr.toList->s.heap.get? b=some o->h'.get? b=some o:=λ b o hL hb hc q=>
  N.keep b o (λ z=>hc (by rw [z];exact eY)) (λ z=>hc (eW _ (by rw [z];simp))) (λ z=>(eT.mp (I.stkSub b z)).elim hL hb) q
 have offs:∀ b∈e::tr.toList,H b=none/\Off X pins b:=λ b hb=>by
  rcases eT.mp hb with z | z
  ·rw [z];exact ⟨hH,ho⟩
  ·exact ht b (by simpa using z)
 refine I.stepO (ch:=e::tr.toList) (λ b hb=>(offs b hb).2) (λ b o hL hb hc q _=>kp b o hL hb hc q) (λ b o _ _ hc q _=>any b o hc q) (λ _ _ _ _ n=>n)
  (λ b o hc q=>let ⟨_,z⟩:=any b o hc q;⟨_,z⟩) (λ _ _ q=>q) (λ _ _ _ q=>q) (λ b ps q=>⟨#[],by rw [q];simp⟩) (λ m hm=>?_) (λ b u q=>?_)
 ·obtain ⟨o,es,ep,g,r⟩:=hm;obtain ⟨sl,g'⟩:=any _ o (λ z=>(offs _ z).2.2.1 rfl) g;exact ⟨_,es,ep,g',r⟩
 ·refine (I.hok b u q).stay (λ c v hc g=>?_) (λ _ z=>z) λ _ _ z=>z
  have trk:H c≠none:=by
   rcases hc with z | z
   ·rw [z,q];simp
   ·rw [z];simp
  refine N.keep c v (λ z=>trk (by rw [z];exact hH)) (λ z=>trk (ht c z).1) (λ z=>trk (I.stkFree c z)) g
noncomputable def XFly (X:Cx) (pins:List (Addr × Obj)) (H:Hp) (h:Heap) (x:Addr) (cls:Value) (d:Option Addr):Prop:=
 H x=none/\Off X pins x/\∃ vs sl tr,h.get? x=some ⟨cls,d,.fields vs,sl⟩/\Trail h x vs tr/\∀ T,tr=some T->H T=none/\Off X pins T
noncomputable def XP (X:Cx) (pins:List (Addr × Obj)) (σ:St) (E:XK) (e:Value) (s':Shared):Prop:=∃ x cls d H',e=.ref x/\Inv X pins σ H' s'/\XFly X pins H' s'.heap x cls d/\E cls d H'
noncomputable def Fly (g:Heap) (H:Hp) (h:Heap) (x:Addr) (cls:Value) (d:Option Addr):Prop:=
 g.get? x=none/\H x=none/\∃ vs sl tr,h.get? x=some ⟨cls,d,.fields vs,sl⟩/\Trail h x vs tr/\∀ T,tr=some T->g.get? T=none/\H T=none
noncomputable def CX1 (P:Program) (w:World):CXT:=λ outer H s E e s'=>∃ x cls d H',e=.ref x/\s'.os=s.os/\AllBare s'.gens/\Un (frs outer) [] H H' s.heap s'.heap/\HOk P w H' s'.heap/\Fly s.heap H' s'.heap x cls d/\E cls d H'
theorem XP.of_call {E:XK} {e:Value} (hex:X.ex=[]) (I:Inv X pins σ H s) (h:CX1 X.prog X.w X.stack H s E e s'):XP X pins σ E e s':=by
 obtain ⟨x,cls,d,H',rfl,os,bare,un,hok,⟨f1,f2,vs,sl,tr,f3,f4,f5⟩,q⟩:=h;exact ⟨x,cls,d,H',rfl,I.call' os un hok bare (λ b z=>absurd z (by simp)),⟨f2,I.off hex f1,vs,sl,tr,f3,f4,λ T z=>⟨(f5 T z).2,I.off hex (f5 T z).1⟩⟩,q⟩
end
section
variable {P:Program} {w:World} {K:W.Frag} {mg:Str->Option Value} {base:Heap} {N:List Str} {qual:Str} {scope:Scope} {f:Addr} {cd:Value} {A:Around} {outer:List Env} {s₀:Shared} {H₀:Hp} {E:XK}
theorem xe_of {pins:List (Addr × Obj)} {σ:St} {e:Value} {s':Shared} (h:XP (aL (CX1 P w) P w K mg base N qual scope f cd A outer s₀ H₀ E) pins σ E e s') :
  (aL (CX1 P w) P w K mg base N qual scope f cd A outer s₀ H₀ E).xe e s':=by
 obtain ⟨x,cls,d,H',rfl,I,⟨f1,f2,vs,sl,tr,f3,f4,f5⟩,q⟩:=h;refine leaving_ok (L:=s₀.heap.objs.size) I.ok.frames I.stack rfl f3 rfl f4 λ h' Nt=>?_;have J:=I.noted f1 f2 f5 Nt;obtain ⟨vs',T,g1,_,g2,g3⟩:=Nt.exc;refine ⟨x,cls,d,H',rfl,J.os,J.bare,J.base,J.hok,⟨f2.1,f1,vs',sl,some T,g1,g3,λ T' z=>?_⟩,q⟩
 cases z;exact ⟨(I.off rfl (Heap.get?_none_of_le g2)).1,I.hok.fresh g2⟩
theorem pass1:bw (CX1 P w) (aL (CX1 P w) P w K mg base N qual scope f cd A outer s₀ H₀ E) E:=λ _ _ _ _ _ _ I h=>xe_of (XP.of_call rfl I h)
theorem pass1n {X:Cx}:bw (CX1 P w) X E0:=λ _ _ _ _ _ _ _ ⟨_,_,_,_,_,_,_,_,_,_,q⟩=>q.elim
theorem Fun.okX {x qual:Str} {st:Stmt} {f:Addr} {fd:FuncData} {N ps:List Str} {k:Nat} {sp:Sp} (F:Fun K x qual st f fd) (S:FnScope N ps (ah st)) (len:∀ vs H Q E,sp vs H Q E->vs.length=ps.length)
  (hbody:∀ (cdv:Value) (A:Around) (outer:List Env) (s:Shared) (H:Hp) (vs:List V) (Q:VK) (E:XK),Room k (A.deeper (envOfC qual (ah st) s.heap.objs.size f cdv))->sp vs H Q E->
   ∃ t,PSs (aL (CX1 P w) P w K mg base N qual (ah st) f cdv A outer s H E) (aS st) t/\t { nx:=λ _ H'=>Q .non H',rt:=Q } (bM N vs) H):FnOk P w K mg base (CX1 P w) (k+1) f fd ps sp:=by
 obtain ⟨oc,od,kV,doc,pm,an,cdv,ct,osl,rfl,lk,hcd⟩:=F.ex;exact fn_of lk hcd S len λ A outer s H vs Q E hr hsp=>hbody cdv A outer s H vs Q E hr hsp
end
end L2
namespace L2
open PySem PySem.Spec PyProof.Rows
abbrev bmV:List Value:=[.type "ValueError",.type "Exception",.type "BaseException",.type "object"]
theorem exc_obj {K:W.Frag} {h:Heap} {C:Addr} {bmB:List Value} {newId:String} (X:K.In h) (q:PySem.W.excIn K C bmB newId=true) :
  ∃ bm N nm qn bs hd sn sub ab col dd k0 k1 k2 k3 k5 mN,h.get? C=some (excClassObj nm qn C N bs bm hd sn sub ab col dd k0 k1 k2 k3 k5 newId)/\h.Ns N mN/\mN "__init__"=none/\OwnTail h bmB bm:=by
 unfold PySem.W.excIn at q
 split at q
 case h_2=>cases q
 case h_1 dd cd sl lk=>
  split at q
  case h_2=>cases q
  case h_1 C' bm k0 k1 k2 k3 n k5 hm hs=>
   simp only [Bool.and_eq_true,beq_iff_eq,Bool.not_eq_true'] at q;obtain ⟨⟨⟨⟨⟨e1,e2⟩,hdel⟩,ht⟩,hok⟩,hni⟩:=q;subst e1 e2;obtain ⟨nm,bs,mro,ns,qn,hd,sn,sub,ab,col,del⟩:=cd;dsimp only at hm hdel hok hni;subst hm hdel;obtain ⟨l⟩:=sl;have hs:l=_:=hs;subst hs;exact ⟨bm,ns,nm,qn,bs,hd,sn,sub,ab,col,dd,k0,k1,k2,k3,k5,_,X _ _ lk,.of_isNs (PySem.W.isNs_of_in X hok),PySem.W.nsMap_none_of_in X hok hni,PySem.W.tail_of_in X ht⟩
section
variable {X:Cx} {E:XK}
noncomputable def XOut (X:Cx) (E:XK):Prop:=∀ pins σ e s',XP X pins σ E e s'->X.xe e s'
theorem xout1 {P:Program} {w:World} {K:W.Frag} {mg:Str->Option Value} {base:Heap} {N:List Str} {qual:Str} {scope:Scope} {f:Addr} {cd:Value} {A:Around} {outer:List Env} {s₀:Shared} {H₀:Hp} :
  XOut (aL (CX1 P w) P w K mg base N qual scope f cd A outer s₀ H₀ E) E:=λ _ _ _ _ h=>xe_of h
noncomputable def tRaise (C:Addr) (E:XK) (t:TA):TS:=λ _ σ H=>t σ H λ vs H1=>vs.length<=sizeLine/\E (.ref C) none H1
theorem dW {C:Addr} {x:Str} {np cpos pos:Pos} {e:Expr} {es:List Expr} {t:TA} (hxe:XOut X E) (hex:X.ex=[]) (hh:X.A.handled=none) (hg:Gl X x) (hm:X.mg x=some (.ref C))
  (O:PySem.W.excIn X.K C bmV "ValueError.__new__"=true) (ha:PA X (e::es) t) (he:starEach (e::es) X.env=(false,eval e X.env)::starEach es X.env:=by rfl) (hpl:(backTo cpos (starEach es X.env)).any (·.1)=false:=by rfl)
  (hd:(x == ("__debug__":Str))=false:=by decide):PS X (.Raise (some (.Call (.Name x np) (e::es) [] cpos)) none pos) (tRaise C E t):=by
 intro pins s σ H D I h;obtain ⟨bm,N,nm,qn,bs,hd',sn,sub,ab,col,dd,k0,k1,k2,k3,k5,mN,hC,hN,hni,T⟩:=exc_obj I.ok.mod.kin O
 refine wpAny_Raise_call_subT (C:=C) (nm:=nm) (q:=qn) (N:=N) (bs:=bs) (bm:=bm) (hdct:=hd') (sn:=sn) (sub:=sub) (ab:=ab) (col:=col) (dd:=dd) (k0:=k0) (k1:=k1) (k2:=k2) (k3:=k3) (k5:=k5)
  PySem.F.excBase_ValueError (mN:=mN) (T.hasType rfl) hh (by rw [he];show (false || (backTo cpos (starEach es X.env)).any (·.1))=false;rw [hpl];rfl) hni (bx I hg hm ⟨rfl,?_⟩ hd)
 have ha':=ha cpos pins s σ H _ I h;rw [he] at ha' ⊢;refine Calls.evalArgs_plain (thn ha' λ us s1 ⟨vs,H1,I1,r,hl,q⟩=>⟨rfl,by rw [<- r.length];exact hl,I1.bk _ _ hC,hN.keeps I1.bk,T.keeps I1.bk,λ h' y hy=>?_⟩);obtain ⟨t',g1,_,_⟩:=hy.there;exact hxe pins σ _ _ ⟨y,.ref C,none,H1,rfl,I1.kept (t':=s1.toks) hy.keeps,⟨I1.hok.noObj hy.new,I1.off hex hy.new,_,_,none,g1,rfl,λ T z=>by cases z⟩,q⟩
noncomputable def PX (X:Cx) (e:Expr) (t:XK->TE):Prop:=
 ∀ (pins:List (Addr × Obj)) (s:Shared) (σ:St) (H:Hp) (Q:VK) (E:XK),Inv X pins σ H s->t E σ H Q->wpAny (model X.prog X.w) X.A (eval e X.env) (EP X pins σ Q) (XP X pins σ E) s
noncomputable def PSX (X:Cx) (st:List Stmt) (t:XK->TS):Prop:=
 ∀ (pins:List (Addr × Obj)) (s:Shared) (σ:St) (H:Hp) (D:Ends) (E:XK),Inv X pins σ H s->t E D σ H->wpAny (model X.prog X.w) X.A (execs st X.env) (SP X pins D) (XP X pins σ E) s
variable {k:Nat} {f C:Addr} {fd:FuncData} {ps:List Str} {sp:Sp} {dvs:List V} {ds:List Value} {x m:Str} {p pos apos:Pos} {e o:Expr} {es:List Expr} {ta:TE} {t:TA}
theorem run_fnX {pins:List (Addr × Obj)} {σ:St} {H:Hp} {s:Shared} {Q:VK} {us:List Value} {vs:List V} (F:FnOk X.prog X.w X.K X.mg X.base (CX1 X.prog X.w) k f fd ps sp) (hr:Room k X.A) (hb:Binds X.K fd ps ds) (hd:Vals dvs ds) (hex:X.ex=[])
  (I:Inv X pins σ H s) (r:Vals vs us) (h:sp (vs++dvs) H Q E):wpAny (model X.prog X.w) X.A (call (.ref f) us) (EP X pins σ Q) (XP X pins σ E) s:=by
 have r2:Vals (vs++dvs) (us++ds):=r.append hd;have hl:(us++ds).length=ps.length:=by rw [<- r2.length];exact F.len _ _ _ _ h
 refine wpAny_call (codeAny_mono (F.run X.A X.stack s H ⟨us,[]⟩ (us++ds) (vs++dvs) Q E hr I.env0 (hb s us I.kIn hl) r2 h) λ r s' hq=>?_)
 cases r with
 | error e=>exact XP.of_call hex I hq
 | ok fl=>
  cases fl with
  | ret u=>exact I.after hq
  | next=>exact False.elim hq
  | brk=>exact False.elim hq
  | cont=>exact False.elim hq
theorem px_call (F:FnOk X.prog X.w X.K X.mg X.base (CX1 X.prog X.w) k f fd ps sp) (hr:Room k X.A) (hg:Gl X x) (hm:X.mg x=some (.ref f)) (hk:PySem.W.keepIn X.K (.ref f)=true) (hb:Binds X.K fd ps ds) (hd:Vals dvs ds) (hex:X.ex=[])
  (ha:PA X.nox (e::es) t) (hdb:(x == ("__debug__":Str))=false:=by decide) (he:starEach (e::es) X.env=(false,eval e X.env)::starEach es X.env:=by rfl) (hpl:(backTo pos (starEach es X.env)).any (·.1)=false:=by rfl) :
  PX X (.Call (.Name x p) (e::es) [] pos) (λ E=>tCall sp dvs E t):=by
 intro pins s σ H Q E I h;refine fW (bx I hg hm ?_ hdb);refine fX (h₀:=X.base) I.ok.mod.kin hk (fh (ha pos pins s σ H _ (I.wish _) h) (λ us s1 ⟨vs,H1,I1,r,q⟩=>⟨I1.kIn,?_⟩) λ _ _ z=>z.elim) he hpl;exact run_fnX F hr hb hd hex I1.unwish r q
noncomputable def PSx (X:Cx) (st:Stmt) (t:XK->TS):Prop:=
 ∀ (pins:List (Addr × Obj)) (s:Shared) (σ:St) (H:Hp) (D:Ends) (E:XK),Inv X pins σ H s->t E D σ H->wpAny (model X.prog X.w) X.A (exec st X.env) (SP X pins D) (XP X pins σ E) s
theorem psx_set {i:Nat} {y:Str} {te:XK->TE} {pos':Pos} (hN:X.N.Nodup) (hi:X.N[i]?=some y) (hx:Loc X.env.scope y) (he:PX X e te) (hs:swapsWith e (some (.Name y pos')) pos.line X.env=pure false:=by rfl)
  (hf:X.fn y=true∨X.env.scope.names.lookup y=some .local:=by first | exact .inl rfl | exact .inr rfl | assumption):PSx X (.Assign [.Name y pos'] e pos) (λ E=>tAsg (te E) (gName i)):=by
 intro pins s σ H D E I h;refine wpAny_Assign_Name (thn (he pins s σ H _ E I h) λ v s1 ⟨y,H1,I1,r1,q1⟩=>?_) hs;exact dP I1 hN hi hx r1 (λ s2 I2=>⟨_,H1,I2,q1⟩) hf
theorem pssx_one {st:Stmt} {t:XK->TS} (h1:PSx X st t):PSX X [st] t:=by
 intro pins s σ H D E I h;refine wpAny_execs_cons (thn (h1 pins s σ H D E I h) λ f s1 q=>?_)
 cases f with
 | next=>exact wpAny_execs_nil q
 | ret v=>exact q
 | brk=>exact q
 | cont=>exact q
end
section
variable {X:Cx}
noncomputable abbrev Cx.hnd (X:Cx) (x:Addr):Cx:={ X with A:=X.A.mark (some (.ref x)),calm:=false,xe:=λ _ _=>False }
theorem Cx.Ok.hnd {x:Addr} (ok:X.Ok):(X.hnd x).Ok:=⟨ok.mod,ok.kind,ok.glob,ok.blt,ok.above,ok.inj,ok.has,ok.cab,(λ z=>nomatch z),ok.frames,ok.stk,ok.exf,ok.bs,ok.bsz,ok.noex,ok.exfs,ok.funs,ok.frf⟩
variable {pins:List (Addr × Obj)} {σ:St} {H:Hp} {s:Shared} {x:Addr}
theorem Inv.hnd (I:Inv X pins σ H s):Inv (X.hnd x) pins σ H s:=⟨I.ok.hnd,I.os,I.bare,I.base,I.loc,I.cell,I.free,I.freeC,I.pin,I.hok,I.len⟩
theorem Inv.unhnd (ok:X.Ok) (I:Inv (X.hnd x) pins σ H s):Inv X pins σ H s:=⟨ok,I.os,I.bare,I.base,I.loc,I.cell,I.free,I.freeC,I.pin,I.hok,I.len⟩
theorem SP.unhnd {D:Ends} {f:Flow} {s':Shared} (ok:X.Ok) (h:SP (X.hnd x) pins D f s'):SP X pins D f s':=by
 cases f with
 | next=>obtain ⟨σ',H',I,q⟩:=h;exact ⟨σ',H',I.unhnd ok,q⟩
 | brk=>obtain ⟨σ',H',I,q⟩:=h;exact ⟨σ',H',I.unhnd ok,q⟩
 | cont=>obtain ⟨σ',H',I,q⟩:=h;exact ⟨σ',H',I.unhnd ok,q⟩
 | ret u=>obtain ⟨v,σ',H',I,r,q⟩:=h;exact ⟨v,σ',H',I.unhnd ok,r,q⟩
noncomputable def XO (x C:Addr) (d:Option Addr):HO:=.ext λ h=>∃ vs sl,h.get? x=some ⟨.ref C,d,.fields vs,sl⟩
theorem Inv.track {o:HO} (I:Inv X pins σ H s) (hn:H x=none) (ho:Off X pins x) (new:ObjOk X.prog X.w (upd H x o) s.heap x o):Inv X pins σ (upd H x o) s:=by
 have ne:∀ b u,H b=some u->b≠x:=λ b u e z=>by rw [z,hn] at e;cases e
 have nx:∀ b,b≠x->H b=none->upd H x o b=none:=λ b hb e=>by rw [ag hb];exact e
 refine ⟨I.ok,I.os,I.bare,⟨I.base.keep,I.base.slot,λ b u e n hx=>nx b (λ z=>by rw [z,ho.1] at e;cases e) (I.base.free b u e n hx),I.base.there,λ b xs e=>?_,λ b u v e=>?_,λ b ps e=>?_⟩,
  I.loc,I.cell,nx _ (Ne.symm ho.2.1) I.free,λ y c e=>nx c (ho.2.2.2.1 y c e) (I.freeC y c e),λ p hp=>?_,λ b u e=>?_,I.len⟩
 ·have q:=I.base.tups b xs e;rw [ag (ne b _ q)];exact q
 ·have q:=I.base.frzs b u v e;rw [ag (ne b _ q)];exact q
 ·obtain ⟨more,q⟩:=I.base.tbls b ps e;exact ⟨more,by rw [ag (ne b _ q)];exact q⟩
 ·obtain ⟨e,n,r⟩:=I.pin p hp;exact ⟨e,nx p.1 (ho.2.2.2.2 p hp) n,r⟩
 ·by_cases hb:b=x
  ·subst hb;rw [ac] at e
   cases e;exact new
  ·rw [ag hb] at e;exact (I.hok b u e).stay (λ _ _ _ q=>q) (λ c q=>by rw [ag (ne c _ q)];exact q) λ c xs q=>by rw [ag (ne c _ q)];exact q
theorem excMatches_K {K:W.Frag} {M:Model} {A:Around} {E:Value->Shared->Prop} {s:Shared} {e C C':Addr} {d:Option Addr} {dt:Data} {sl:Array (Option Value)} {b:Bool} {Q:Bool->Shared->Prop} (X:K.In s.heap) (he:s.heap.get? e=some ⟨.ref C,d,dt,sl⟩)
  (h1:PySem.W.instIn K (.ref C') (.type "tuple")=some false) {cd:ClassData} (h2:PySem.W.clsIn K C'=some cd) (h3:PySem.W.subIn K (.ref C') (.type "BaseException")=some true) (h4:PySem.W.subIn K (.ref C) (.ref C')=some b) (q:Q b s) :
  wpAny M A (excMatches (.ref e) (.ref C')) Q E s:=by
 have it:PySem.W.Looks M s.heap (isExcClass (.ref C')) true:=by
  unfold isExcClass;refine PySem.W.Looks.andThen (a:=true) ?_ (PySem.W.looks_subIn X h3);unfold PySem.W.clsIn at h2
  split at h2
  ·rename_i ho;intro A' Q' E' s' k q';unfold isType loadHead;exact eo (wpAny_loadPart (k _ _ (X _ _ ho)) (eJ q'))
  ·cases h2
 have ty:PySem.W.Looks M s.heap (typeOf (.ref e)) (.ref C):=(PySem.W.Looks.ld he).andThen .now;unfold excMatches;refine eo ((PySem.W.looks_instIn X h1).here ?_);simp only [Bool.false_eq_true,if_false];refine eo (eJ ?_);simp only [List.forIn_cons,List.forIn_nil];refine eo (eo ?_);refine eo (it.here ?_);simp only [Bool.not_true,Bool.false_eq_true,if_false];refine eJ (eJ (eo (ty.here (eo (eo (eo ((PySem.W.looks_subIn X h4).here ?_)))))))
 cases b with
 | true=>exact eJ (eJ (eJ q))
 | false=>exact eJ (eJ (eJ q))
theorem flight_same {M:Model} {A:Around} {E:Value->Shared->Prop} {vs:Array Value} {T:Addr} {c:Value} {d:Option Addr} {sl:Array (Option Value)} {Q:Unit->Shared->Prop} (he:s.heap.get? x=some ⟨c,d,.fields vs,sl⟩) (ht:Trail s.heap x vs (some T)) (q:Q () s):wpAny M A (setFlight (.ref x) none) Q E s:=by
 obtain ⟨h1,_,oT,ts,gT,dT,h3⟩:=ht;refine wpAny_setFlight_none he rfl h1 gT dT (fS.mp h3).1 ?_;rw [Heap.update_setField_same s.heap T oT ts 3 .none gT dT h3];exact q
theorem c9 {M:Model} {A:Around} {E:Value->Shared->Prop} {i:Nat} {n:Str} {pos:Pos} {Q:Unit->Shared->Prop} (I:Inv X pins σ H s) (hN:X.N.Nodup) (hi:X.N[i]?=some n) (hk:X.env.scope.names.lookup n=some .local)
  (h:∀ s',Inv X pins (σ.set i none) H s'->Q () s'):wpAny M A (do bindName X.env n .none;unbindBehindTheSuite X.env n pos) Q E s:=by
 obtain ⟨m,hn,hl⟩:=id I.loc;have hcls:(X.env.scope.kind == .class || (X.env.scope.kind == .module && X.env.locals != X.env.globals))=false:=by rw [I.ok.kind];rfl
 have hiσ:i < σ.length:=by rw [I.len];exact (eG.mp hi).1
 have cne:=I.cne;obtain ⟨oL,_,_,hoL,_⟩:=id hn;have neL:∀ b o,X.s₀.heap.get? b=some o->b≠X.env.locals:=λ b o e=>fg (eP (eL e) I.ok.above);refine wpAny_nameGoes_keeps hk hn hcls λ h' v hn' hs=>h _ ⟨I.ok,I.os,I.bare,⟨λ b o e n hb hx=>?_,λ b o e n hb hx=>?_,I.base.free,λ b o e hx=>?_,I.base.tups,I.base.frzs,I.base.tbls⟩,⟨_,hn',λ j y v' e1 e2 e3=>?_⟩,λ y c e=>?_,I.free,I.freeC,λ p hp=>?_,λ b u e=>?_,by simpa using I.len⟩
 ·exact (hs.2 b (neL b o e)).trans (I.base.keep b o e n hb hx)
 ·obtain ⟨sl,e1⟩:=I.base.slot b o e n hb hx;exact ⟨sl,(hs.2 b (neL b o e)).trans e1⟩
 ·obtain ⟨o',e1⟩:=I.base.there b o e hx;exact ⟨o',(hs.2 b (neL b o e)).trans e1⟩
 ·by_cases hj:j=i
  ·subst hj;rw [List.getElem?_set_self hiσ] at e2
   cases e2
  ·rw [List.getElem?_set_ne (Ne.symm hj)] at e2;obtain ⟨u',r',q⟩:=hl j y v' e1 e2 e3;refine ⟨u',r',?_⟩;rcases q with ⟨k,e⟩ | ⟨k,c,e,z⟩
   ·refine .inl ⟨k,?_⟩
    have:y≠n:=λ e=>hj (nodup_ix hN e1 (e ▸ hi))
    simp [this,e]
   ·exact .inr ⟨k,c,e,z.sameBut hs (cne y c e)⟩
 ·obtain ⟨w',z⟩:=I.cell y c e;exact ⟨w',z.sameBut hs (cne y c e)⟩
 ·obtain ⟨e,n,ne,nf,d⟩:=I.pin p hp;exact ⟨(hs.2 p.1 ne).trans e,n,ne,nf,d⟩
 ·refine (I.hok b u e).stay (λ c w' hc q=>(hs.2 c ?_).trans q) (λ _ q=>q) λ _ _ q=>q;rintro rfl;rcases hc with z | z
  ·rw [<- z,I.free] at e;cases e
  ·rw [I.free] at z;cases z
noncomputable def XHeld (X:Cx) (pins:List (Addr × Obj)) (H:Hp) (h:Heap) (x:Addr) (cls:Value) (d:Option Addr):Prop:=
 H x=none/\Off X pins x/\∃ vs sl T,h.get? x=some ⟨cls,d,.fields vs,sl⟩/\Trail h x vs (some T)/\H T=none/\Off X pins T
noncomputable abbrev TH:=Ends->St->Value->Option Addr->Hp->Prop
noncomputable def PH (X:Cx) (hs:List ExceptHandler) (t:TH):Prop:=
 ∀ (pins:List (Addr × Obj)) (s:Shared) (σ:St) (H:Hp) (D:Ends) (x:Addr) (cls:Value) (d:Option Addr),Inv X pins σ H s->XHeld X pins H s.heap x cls d->t D σ cls d H->
  wpAny (model X.prog X.w) X.A (handleBy (.ref x) X.env hs) (SP X pins D) X.xe s
structure Catches (K:W.Frag) (C:Addr):Prop where
 tu:PySem.W.instIn K (.ref C) (.type "tuple")=some false
 cl:∃ cd,PySem.W.clsIn K C=some cd
 ex:PySem.W.subIn K (.ref C) (.type "BaseException")=some true
noncomputable def hNever:TH:=λ _ _ _ _ _=>False
theorem ph_never {hs:List ExceptHandler}:PH X hs hNever:=λ _ _ _ _ _ _ _ _ _ _ h=>h.elim
noncomputable def hAs (K:W.Frag) (C':Addr) (i:Nat) (t:TS) (tr:TH):TH:=λ D σ cls d H=>∃ C b,cls=.ref C/\PySem.W.subIn K (.ref C) (.ref C')=some b/\
 if b=true then ∀ x,H x=none->t { nx:=λ σ' H'=>D.nx (σ'.set i none) H',rt:=D.rt,bk:=λ σ' H'=>D.bk (σ'.set i none) H',ct:=λ σ' H'=>D.ct (σ'.set i none) H' } (σ.set i (some (.ref x))) (upd H x (XO x C d)) else tr D σ cls d H
theorem ph_as {y n:Str} {i:Nat} {C':Addr} {np pos:Pos} {b₀:Stmt} {suite:List Stmt} {rest:List ExceptHandler} {t:TS} {tr:TH} (hg:Gl X y) (hm:X.mg y=some (.ref C')) (hc:Catches X.K C') (hN:X.N.Nodup) (hi:X.N[i]?=some n) (hk:X.env.scope.names.lookup n=some .local)
  (hsu:∀ x,PSs (X.hnd x) (b₀ :: suite) t) (hr:PH X rest tr) (hd:(y == ("__debug__":Str))=false:=by decide):PH X (.ExceptHandler (some (.Name y np)) (some n) (b₀ :: suite) pos::rest) (hAs X.K C' i t tr):=by
 intro pins s σ H D x cls d I hx h;obtain ⟨C,b,rfl,hsub,q⟩:=h;obtain ⟨f1,f2,vs,sl,T,f3,f4,f5⟩:=id hx;obtain ⟨cd,hcd⟩:=hc.cl;refine wpAny_handleBy_cons (codeAny_handlers_test (bx (X:=X.hnd x) I.hnd hg hm (excMatches_K I.kIn f3 hc.tu hcd hc.ex hsub ?_) hd)) (by intro z;cases z)
 cases b with
 | false=>exact hr pins s σ H D x _ d I hx q
 | true=>
  have J:Inv X pins σ (upd H x (XO x C d)) s:=I.track f1 f2 ⟨⟨vs,sl,f3⟩,⟨_,f3⟩,λ h1 h2 ⟨vs',sl',e⟩ k=>⟨vs',sl',k _ e⟩⟩;refine codeAny_handlers_suite_as (flight_same f3 f4 (dP (v:=.ref x) J hN hi (.inl hk) rfl (λ s2 J2=>?_) (.inr hk)));refine fh (hsu x pins s2 _ _ _ J2.hnd (q x f1)) (λ f s3 z=>?_) λ _ _ z=>z.elim;have z:=z.unhnd I.ok
  cases f with
  | next=>obtain ⟨σ',H',I',q'⟩:=z;exact c9 I' hN hi hk λ s4 I4=>⟨_,H',I4,q'⟩
  | brk=>obtain ⟨σ',H',I',q'⟩:=z;exact c9 I' hN hi hk λ s4 I4=>⟨_,H',I4,q'⟩
  | cont=>obtain ⟨σ',H',I',q'⟩:=z;exact c9 I' hN hi hk λ s4 I4=>⟨_,H',I4,q'⟩
  | ret u=>obtain ⟨v,σ',H',I',r',q'⟩:=z;exact c9 I' hN hi hk λ s4 I4=>⟨v,_,H',I4,r',q'⟩
noncomputable def tTry (tb:XK->TS) (th:TH):TS:=λ D σ H=>tb (λ cls d H'=>th D σ cls d H') D σ H
theorem ps_try {body:List Stmt} {h₀:ExceptHandler} {hs:List ExceptHandler} {pos:Pos} {tb:XK->TS} {th:TH} (hb:PSX X body tb) (hh:PH X (h₀ :: hs) th) (hex:X.ex=[]:=by rfl) (hstk:X.stack=X.env::X.outer:=by rfl) (hfr:X.env.frame=some X.env.locals:=by rfl) :
  PS X (.Try body (h₀ :: hs) [] [] pos) (tTry tb th):=by
 intro pins s σ H D I h;refine wpAny_Try_except (fh (hb pins s σ H D _ I h) (λ f s1 q=>?_) λ e s1 q=>?_)
 ·cases f with
  | next=>exact wpAny_execs_nil q
  | ret v=>exact q
  | brk=>exact q
  | cont=>exact q
 ·obtain ⟨x,cls,d,H',rfl,I',⟨f1,f2,vs,sl,tr,f3,f4,f5⟩,q⟩:=q;refine noted_ok (env:=X.env) (outer:=X.outer) (by rw [<- hstk];exact I'.ok.frames) (by rw [<- hstk];exact I'.stack) hfr f3 rfl f4 λ h' N=>?_;have J:=I'.noted f1 f2 f5 (by rw [hstk];exact N);obtain ⟨vs',T,g1,_,g2,g3⟩:=N.exc;exact hh pins _ σ H' D x cls d J ⟨f1,f2,vs',sl,T,g1,g3,I'.hok.fresh g2,I'.off hex (Heap.get?_none_of_le g2)⟩ q
end
end L2
namespace L2
open PySem PySem.Spec PyProof.Rows
noncomputable def FnB (P:Program) (w:World) (K:W.Frag) (mg:Str->Option Value) (base:Heap) (CX:CXT) (x:Str) (k:Nat) (ps:List Str) (sp:Sp):Prop:=
 ∃ f fd,mg x=some (.ref f)/\PySem.W.keepIn K (.ref f)=true/\Binds K fd ps []/\FnOk P w K mg base CX k f fd ps sp
noncomputable def MtB (P:Program) (w:World) (K:W.Frag) (mg:Str->Option Value) (base:Heap) (CX:CXT) (C:Addr) (m:Str) (k:Nat) (ps:List Str) (sp:Sp):Prop:=
 ∃ f fd,Meth K C m f/\Binds K fd ps []/\FnOk P w K mg base CX k f fd ps sp
noncomputable def MkB (P:Program) (w:World) (K:W.Frag) (mg:Str->Option Value) (base:Heap) (CX:CXT) (C:Addr) (k:Nat) (ps:List Str) (dvs:List V) (sp:Sp):Prop:=
 ∃ f fd ds,Mk K C f/\Binds K fd ps ds/\Vals dvs ds/\FnOk P w K mg base CX k f fd ps sp
theorem FnOk.up {P:Program} {w:World} {K:W.Frag} {mg:Str->Option Value} {base:Heap} {CX:CXT} {k:Nat} {f:Addr} {fd:FuncData} {ps:List Str} {sp:Sp} (F:FnOk P w K mg base CX0 k f fd ps sp):FnOk P w K mg base CX k f fd ps sp:=
 ⟨F.len,λ A outer s H args us vs Q E hr he hb hv hs=>codeAny_mono (F.run A outer s H args us vs Q E hr he hb hv hs) λ r s' h=>by
  cases r with
  | error e=>exact False.elim h
  | ok fl=>cases fl <;> exact h⟩
section
variable {P:Program} {w:World} {K:W.Frag} {mg:Str->Option Value} {base:Heap} {CX:CXT} {x m:Str} {C:Addr} {k:Nat} {ps:List Str} {sp:Sp} {dvs:List V}
theorem FnB.up (h:FnB P w K mg base CX0 x k ps sp):FnB P w K mg base CX x k ps sp:=by
 obtain ⟨f,fd,a,b,c,d⟩:=h
 exact ⟨f,fd,a,b,c,d.up⟩
end
section
variable {X:Cx} {CX:CXT} {k j:Nat} {C:Addr} {ps:List Str} {sp:Sp} {dvs:List V} {E:XK} {x m:Str} {p pos apos:Pos} {e o:Expr} {es:List Expr} {ta:TE} {t:TA}
theorem aN (F:FnB X.prog X.w X.K X.mg X.base CX x k ps sp) (hr:Room j X.A) (hx:bw CX X E) (ha:PA X (e::es) t) (hj:k<=j:=by decide) (hg:Gl X x:=by rfl) (hdb:(x == ("__debug__":Str))=false:=by decide)
  (he:starEach (e::es) X.env=(false,eval e X.env)::starEach es X.env:=by rfl) (hpl:(backTo pos (starEach es X.env)).any (·.1)=false:=by rfl):PE X (.Call (.Name x p) (e::es) [] pos) (tCall sp [] E t):=by
 obtain ⟨f,fd,a,b,c,d⟩:=F;exact pe_call d (hr.mono hj) hg a b c .nil hx ha hdb he hpl
theorem pe_mk (F:MkB X.prog X.w X.K X.mg X.base CX C k ps dvs sp) (hr:Room j X.A) (hm:X.mg x=some (.ref C)) (hx:bw CX X E) (ha:PA X (e::es) t) (hj:k+1<=j:=by decide) (hg:Gl X x:=by rfl) (hdb:(x == ("__debug__":Str))=false:=by decide)
  (he:starEach (e::es) X.env=(false,eval e X.env)::starEach es X.env:=by rfl) (hpl:(backTo pos (starEach es X.env)).any (·.1)=false:=by rfl):PE X (.Call (.Name x p) (e::es) [] pos) (tMake C sp dvs E t):=by
 obtain ⟨f,fd,ds,a,b,c,d⟩:=F;exact pe_make a d (hr.mono hj) hg hm b c hx ha hdb he hpl
theorem px_fn (F:FnB X.prog X.w X.K X.mg X.base (CX1 X.prog X.w) x k ps sp) (hr:Room j X.A) (ha:PA X.nox (e::es) t) (hj:k<=j:=by decide) (hg:Gl X x:=by rfl) (hex:X.ex=[]:=by rfl) (hdb:(x == ("__debug__":Str))=false:=by decide)
  (he:starEach (e::es) X.env=(false,eval e X.env)::starEach es X.env:=by rfl) (hpl:(backTo pos (starEach es X.env)).any (·.1)=false:=by rfl):PX X (.Call (.Name x p) (e::es) [] pos) (λ E=>tCall sp [] E t):=by
 obtain ⟨f,fd,a,b,c,d⟩:=F;exact px_call d (hr.mono hj) hg a b c .nil hex ha hdb he hpl
end
noncomputable def FDe (K:W.Frag) (mg:Str->Option Value) (x:Str) (st:Stmt) (ps:List Str):Prop:=∃ f fd,Fun K x x st f fd/\mg x=some (.ref f)/\Binds K fd ps []
noncomputable def MDe (K:W.Frag) (C:Addr) (x qual:Str) (st:Stmt) (ps:List Str):Prop:=∃ f fd,Fun K x qual st f fd/\Meth K C x f/\Binds K fd ps []
section
variable {P:Program} {w:World} {K:W.Frag} {mg:Str->Option Value} {base:Heap} {x qual:Str} {C:Addr} {st:Stmt} {N ps:List Str} {k:Nat} {sp:Sp}
theorem FDe.ok (F:FDe K mg x st ps) (S:FnScope N ps (ah st)) (len:∀ vs H Q E,sp vs H Q E->vs.length=ps.length)
  (hbody:∀ (f:Addr) (cdv:Value) (A:Around) (outer:List Env) (s:Shared) (H:Hp) (vs:List V) (Q:VK) (E:XK),Room k (A.deeper (envOfC x (ah st) s.heap.objs.size f cdv))->sp vs H Q E->
   ∃ t,PSs (aL CX0 P w K mg base N x (ah st) f cdv A outer s H E).nox (aS st) t/\t { nx:=λ _ H'=>Q .non H',rt:=Q } (bM N vs) H):FnB P w K mg base CX0 x (k+1) ps sp:=
 let ⟨f,fd,a,b,c⟩:=F
 ⟨f,fd,b,a.kp,c,a.ok S len (hbody f)⟩
theorem MDe.ok (F:MDe K C x qual st ps) (S:FnScope N ps (ah st)) (len:∀ vs H Q E,sp vs H Q E->vs.length=ps.length)
  (hbody:∀ (f:Addr) (cdv:Value) (A:Around) (outer:List Env) (s:Shared) (H:Hp) (vs:List V) (Q:VK) (E:XK),Room k (A.deeper (envOfC qual (ah st) s.heap.objs.size f cdv))->sp vs H Q E->
   ∃ t,PSs (aL CX0 P w K mg base N qual (ah st) f cdv A outer s H E).nox (aS st) t/\t { nx:=λ _ H'=>Q .non H',rt:=Q } (bM N vs) H):MtB P w K mg base CX0 C x (k+1) ps sp:=
 let ⟨f,fd,a,b,c⟩:=F
 ⟨f,fd,b,c,a.ok S len (hbody f)⟩
theorem FDe.okX (F:FDe K mg x st ps) (S:FnScope N ps (ah st)) (len:∀ vs H Q E,sp vs H Q E->vs.length=ps.length)
  (hbody:∀ (f:Addr) (cdv:Value) (A:Around) (outer:List Env) (s:Shared) (H:Hp) (vs:List V) (Q:VK) (E:XK),Room k (A.deeper (envOfC x (ah st) s.heap.objs.size f cdv))->sp vs H Q E->
   ∃ t,PSs (aL (CX1 P w) P w K mg base N x (ah st) f cdv A outer s H E) (aS st) t/\t { nx:=λ _ H'=>Q .non H',rt:=Q } (bM N vs) H):FnB P w K mg base (CX1 P w) x (k+1) ps sp:=
 let ⟨f,fd,a,b,c⟩:=F
 ⟨f,fd,b,a.kp,c,a.okX S len (hbody f)⟩
theorem MDe.okX (F:MDe K C x qual st ps) (S:FnScope N ps (ah st)) (len:∀ vs H Q E,sp vs H Q E->vs.length=ps.length)
  (hbody:∀ (f:Addr) (cdv:Value) (A:Around) (outer:List Env) (s:Shared) (H:Hp) (vs:List V) (Q:VK) (E:XK),Room k (A.deeper (envOfC qual (ah st) s.heap.objs.size f cdv))->sp vs H Q E->
   ∃ t,PSs (aL (CX1 P w) P w K mg base N qual (ah st) f cdv A outer s H E) (aS st) t/\t { nx:=λ _ H'=>Q .non H',rt:=Q } (bM N vs) H):MtB P w K mg base (CX1 P w) C x (k+1) ps sp:=
 let ⟨f,fd,a,b,c⟩:=F
 ⟨f,fd,b,c,a.okX S len (hbody f)⟩
end
noncomputable def FunG (K:W.Frag) (x qual:Str) (st:Stmt) (f:Addr) (fd:FuncData):Prop:=∃ (oc:Value) (od:Option Addr) (dV kV doc pm:Value) (an:Option Addr) (cdv ct:Value) (osl:Array (Option Value)),
  fd=PySem.W.fnOf x qual (bE st) (aS st) (ah st) dV kV doc pm an cdv ct/\K.lookup f=some ⟨oc,od,.func fd,osl⟩/\PySem.W.codeIn K cdv qual=true
structure FunD (K:W.Frag) (x qual:Str) (st:Stmt) (f:Addr) (fd:FuncData) (ds:Array Value):Prop where
 ex:∃ (oc:Value) (od:Option Addr) (T:Addr) (kV doc pm:Value) (an:Option Addr) (cdv ct:Value) (osl:Array (Option Value)) (o:Obj) (n:Nat),
  fd=PySem.W.fnOf x qual (bE st) (aS st) (ah st) (.ref T) kV doc pm an cdv ct/\K.lookup f=some ⟨oc,od,.func fd,osl⟩/\PySem.W.codeIn K cdv qual=true/\K.lookup T=some o/\o.data=.seq ds n
section
variable {P:Program} {w:World} {K:W.Frag} {mg:Str->Option Value} {base:Heap} {x qual:Str} {C:Addr} {st:Stmt} {f:Addr} {fd:FuncData} {ds:Array Value} {N ps:List Str} {k:Nat} {sp:Sp}
theorem FunD.gen (F:FunD K x qual st f fd ds):FunG K x qual st f fd:=by
 obtain ⟨oc,od,T,kV,doc,pm,an,cdv,ct,osl,_,_,e,l,c,_⟩:=F.ex
 exact ⟨oc,od,.ref T,kV,doc,pm,an,cdv,ct,osl,e,l,c⟩
theorem Fun.gen (F:Fun K x qual st f fd):FunG K x qual st f fd:=by
 obtain ⟨oc,od,kV,doc,pm,an,cdv,ct,osl,e,l,c⟩:=F.ex
 exact ⟨oc,od,.none,kV,doc,pm,an,cdv,ct,osl,e,l,c⟩
theorem FunD.binds {es:List Value} (F:FunD K x qual st f fd ds)
  (h:∀ (T:Addr) (kV doc pm:Value) (an:Option Addr) (cdv ct:Value) (us:List Value),(us++es).length=ps.length->∃ k,bindArgs (PySem.W.fnOf x qual (bE st) (aS st) (ah st) (.ref T) kV doc pm an cdv ct) ⟨us,[]⟩=seqItems? (.ref T) >>= k/\k (some ds)=pure (ps.zip (us++es))):Binds K fd ps es:=by
 obtain ⟨oc,od,T,kV,doc,pm,an,cdv,ct,osl,o,n,rfl,lk,hcd,lt,hd⟩:=F.ex;intro s us KX hl;obtain ⟨k,h1,h2⟩:=h T kV doc pm an cdv ct us hl;exact PySem.W.binds_K KX rfl lt hd h1 h2
theorem funD_mk {T:Addr} {oc:Value} {od an:Option Addr} {osl:Array (Option Value)} {kV doc pm cdv ct:Value} {o:Obj} {n:Nat} (l:K.lookup f=some ⟨oc,od,.func (PySem.W.fnOf x qual (bE st) (aS st) (ah st) (.ref T) kV doc pm an cdv ct),osl⟩)
  (c:PySem.W.codeIn K cdv qual=true) (t:K.lookup T=some o) (hd:o.data=.seq ds n):FunD K x qual st f (PySem.W.fnOf x qual (bE st) (aS st) (ah st) (.ref T) kV doc pm an cdv ct) ds:=⟨⟨oc,od,T,kV,doc,pm,an,cdv,ct,osl,o,n,rfl,l,c,t,hd⟩⟩
theorem FunG.ok (F:FunG K x qual st f fd) (S:FnScope N ps (ah st)) (len:∀ vs H Q E,sp vs H Q E->vs.length=ps.length)
  (hbody:∀ (cdv:Value) (A:Around) (outer:List Env) (s:Shared) (H:Hp) (vs:List V) (Q:VK) (E:XK),Room k (A.deeper (envOfC qual (ah st) s.heap.objs.size f cdv))->sp vs H Q E->
   ∃ t,PSs (aL CX0 P w K mg base N qual (ah st) f cdv A outer s H E).nox (aS st) t/\t { nx:=λ _ H'=>Q .non H',rt:=Q } (bM N vs) H):FnOk P w K mg base CX0 (k+1) f fd ps sp:=by
 obtain ⟨oc,od,dV,kV,doc,pm,an,cdv,ct,osl,rfl,lk,hcd⟩:=F;refine fn_of lk hcd S len λ A outer s H vs Q E hr hsp=>?_;obtain ⟨t,h,q⟩:=hbody cdv A outer s H vs Q E hr hsp;exact ⟨t,h.nox,q⟩
noncomputable def IDe (K:W.Frag) (C:Addr) (qual:Str) (st:Stmt) (ps:List Str) (dvss:List (List V)):Prop:=∃ f fd,FunG K "__init__" qual st f fd/\Mk K C f/\∀ dvs∈dvss,∃ es,Vals dvs es/\Binds K fd ps es
theorem IDe.ok {dvss:List (List V)} (F:IDe K C qual st ps dvss) (S:FnScope N ps (ah st)) (len:∀ vs H Q E,sp vs H Q E->vs.length=ps.length)
  (hbody:∀ (f:Addr) (cdv:Value) (A:Around) (outer:List Env) (s:Shared) (H:Hp) (vs:List V) (Q:VK) (E:XK),Room k (A.deeper (envOfC qual (ah st) s.heap.objs.size f cdv))->sp vs H Q E->
   ∃ t,PSs (aL CX0 P w K mg base N qual (ah st) f cdv A outer s H E).nox (aS st) t/\t { nx:=λ _ H'=>Q .non H',rt:=Q } (bM N vs) H):∀ dvs∈dvss,MkB P w K mg base CX0 C (k+1) ps dvs sp:=λ dvs hd=>
 let ⟨f,fd,a,b,c⟩:=F
 let ⟨es,v,d⟩:=c dvs hd
 ⟨f,fd,es,b,d,v,a.ok S len (hbody f)⟩
end
end L2
namespace L2
open PySem PySem.Spec PyProof.Rows PySem.W PySem.Calls
theorem weight_mem:∀ (ns:List Int) (n:Int),n∈ns->Builtin.Int.intBits n<=WData.weightAll (ns.map WData.int)
 | m::r,n,h=>by
  rw [fz];show Builtin.Int.intBits n<=WData.weight (.int m)+1+WData.weightAll (r.map WData.int);rcases eT.mp h with z | z
  ·subst z
   have:WData.weight (.int n)=Builtin.Int.intBits n:=by
    simp only [WData.weight,Builtin.Int.intBits]
   omega
  ·have:=weight_mem r n z
   omega
theorem bits_of_lay {ns:List Int} (h:WData.layableAll [WData.list (ns.map WData.int)]=true):∀ n∈ns,Builtin.Int.intBits n<=2 ^ 20:=λ n hn=>by
 have h1:(WData.list (ns.map WData.int)).layable=true:=by
  unfold WData.layableAll at h;simpa using h
 have h2:=(layableW_iff.mp h1).2.2;have h3:=weight_mem ns n hn;exact eQ h3 h2
theorem walk_ofB {l:PySem.W.OpenLaw} {n k:Nat} {q:Program} {loose:List Str} {XP:(Str->Option Value)->Heap->Prop} {YP:World->Heap->Prop} {d:DefRec} {K:Params->W.Frag} {CX:World->CXT} {sp:World->Sp} {x:Str}
  (hn:l.most=some n) (hn2:n<=sizeLine) (hdf:d.params.defaults=[]) (hr:Room k callerA)
  (hY:∀ (w:World) (h:Heap),YP w h->(K w.params).In h)
  (F:∀ (w:World) (mg:Str->Option Value) (fa:Addr) (h:Heap),(K w.params).In h->h.Ns mainGlobals mg->mg d.name=some (.ref fa)->
   ∃ fd:FuncData,(∀ (s:Shared) (u:Value),BindsTo s fd ⟨[u],[]⟩ [(x,u)])/\
    ∀ base:Heap,(K w.params).In base->base.Ns mainGlobals mg->FnOk l.prog w (K w.params) mg base (CX w) k fa fd [x] (sp w))
  (hsp:∀ (w:World) (H:Hp) (a:Addr) (ns:List Int),ns.length<=n->(∀ i∈ns,Builtin.Int.intBits i<=2 ^ 20)->Only H->SqL (K w.params) H a (ns.map V.int)->sp w [.ref a] H (λ v _=>v=.bl true) λ _ _ _=>False)
  (hCX:∀ (w:World) (H:Hp) (s:Shared) (e:Value) (s':Shared),CX w [] H s (λ _ _ _=>False) e s'->False) :
  PySem.W.WalkO q loose XP YP l.row.toRowW d [] (λ f vs=>PySem.call f vs):=by
 intro w s₀ s₁ mg mb G Y fa o pm cd doc dV kV ho hd hcd hD hmg hg args vals as hpre hlay hrd hwl hlo;obtain rfl:dV=.none:=Dflts.none hD hdf;obtain rfl:kV=.none:=Dflts.noKw hD;obtain ⟨a,vs,ns,rfl,rfl,hobj,hints,hlen⟩:=Att.script_of hn hpre hwl;have hbits:=bits_of_lay hlay;have KX:=hY w _ Y;obtain ⟨fd,hb,hF⟩:=F w mg fa _ KX G.T.g hmg;refine enter_call (codeAny_mono (law_call KX G.T.g G.T.b G.T.builtins G.T.nolimit hg hobj hints (eQ hlen hn2) hr hF hb (λ H hO hS=>hsp w H a ns hlen hbits hO hS) λ H e s'=>hCX w H s₁ e s') λ r s' hq=>?_);obtain ⟨rfl,h2,h3,h4⟩:=hq;exact ⟨.inl ⟨.bool true,.bool true,[],rfl,λ _=>rfl,.bool true,Att.post_true l _,λ _=>⟨List.Pairwise.nil,λ _ hm=>(nomatch hm)⟩⟩,h2,h3,h4⟩
section
variable {X:Cx}
end
end L2
namespace L2
open PySem PySem.Spec PyProof.Rows
section
variable {prog:Program} {w:World} {A:Around} {E:Value->Shared->Prop} {s:Shared} {K:W.Frag} {x D:Addr} {ox:Obj} {od:Option Obj} {name:Str}
structure ExA (K:W.Frag) (D:Addr):Prop where
 ga:PySem.W.findIn K (.ref D) "__getattribute__"=some (some (.builtin "BaseException.__getattribute__"))
 gh:PySem.W.findIn K (.ref D) "__getattr__"=some none
 be:PySem.W.mroIn K D (.type "BaseException")=some true
 ca:PySem.W.findIn K (.ref D) "__class__"=some (some (.builtin "object.__class__"))
 gs:PySem.W.specialIn K (.builtin "object.__class__") "__get__"=some (some (.builtin "getset_descriptor.__get__"))
 tk:PySem.W.takesIn K (.builtin "object.__class__")=some true
 ob:PySem.W.mroIn K D (.type "object")=some true
 cl:∃ cd,PySem.W.clsIn K D=some cd
theorem exc_check {nameV:Value} {Q:Unit->Shared->Prop} (a:ExA K D) (X:K.In s.heap) (I:PySem.W.InstAt s.heap x ox D od) (hq:Q () s):wpAny (model prog w) A (checkBuiltinCall "BaseException.__getattribute__" ⟨[.ref x,nameV],[]⟩) Q E s:=by
 have hk:builtinKind "BaseException.__getattribute__"=some .slot:=by decide +kernel
 have hsplit:splitId "BaseException.__getattribute__"=some ("BaseException","__getattribute__"):=by decide +kernel
 have ha:=F.args_bexc_ga (.ref x) nameV;have LI:PySem.W.Looks (model prog w) s.heap (isInstance (.ref x) (.type "BaseException")) true:=I.type.andThen (PySem.W.looks_mroIn X a.be);obtain ⟨hh,g,d,t,os⟩:=s;simp only [checkBuiltinCall,hk,hsplit];refine eo (LI.at ?_)
 repeat (first | assumption | wp_step)
theorem exc_call_val {tk:Tok} {v:Value} {R:Result->Shared->Prop} (a:ExA K D) (X:K.In s.heap) (I:PySem.W.InstAt s.heap x ox D od) (hf:PySem.W.findObj K D od name=some (.value v)) (hq:R (.ok (.ret v)) s) :
  codeAny (model prog w) A (.call (.builtin "BaseException.__getattribute__") ⟨[.ref x,.str name tk],[]⟩) R s:=by
 refine codeAny_call_builtin F.excAttr_ValueError.ga.plain F.entry_bexc_ga (exc_check a X I ?_);have L0:=I.type (M:=model prog w);have L1:=PySem.W.looks_find (M:=model prog w) X I hf;obtain ⟨hh,g,d,t,os⟩:=s;refine eo (eJ ?_);refine eo (eJ ?_);refine eo (L0.at (eo (L1.at ?_)));exact eJ hq
theorem exc_call_cls {tk:Tok} {R:Result->Shared->Prop} (a:ExA K D) (X:K.In s.heap) (I:PySem.W.InstAt s.heap x ox D od) (hq:R (.ok (.ret (.ref D))) s) :
  codeAny (model prog w) A (.call (.builtin "BaseException.__getattribute__") ⟨[.ref x,.str "__class__" tk],[]⟩) R s:=by
 refine codeAny_call_builtin F.excAttr_ValueError.ga.plain F.entry_bexc_ga (exc_check a X I ?_)
 have hf:PySem.W.findObj K D od "__class__"=some (.bind (.builtin "getset_descriptor.__get__") (.builtin "object.__class__")):=by
  obtain ⟨cd,hc⟩:=a.cl;unfold PySem.W.findObj;rw [hc,Option.bind_some,a.ca,Option.bind_some];simp [a.gs,a.tk]
 have L0:=I.type (M:=model prog w);have L1:=PySem.W.looks_find (M:=model prog w) X I hf;obtain ⟨hh,g,d,t,os⟩:=s;refine eo (eJ ?_);refine eo (eJ ?_);refine eo (L0.at (eo (L1.at ?_)));refine eo (wpAny_holding (wpAny_call (PySem.W.class_get (s:=⟨hh,g,d,t,os⟩) X I a.ob ?_)));exact eJ hq
theorem exc_by {tk:Tok} {fill expr:Bool} {v:Value} {Q:Value->Shared->Prop} (a:ExA K D) (X:K.In s.heap) (I:PySem.W.InstAt s.heap x ox D od) (hv:PySem.W.handedIn v=true)
  (h:∀ (A:Around) (R:Result->Shared->Prop),R (.ok (.ret v)) s->codeAny (model prog w) A (.call (.builtin "BaseException.__getattribute__") ⟨[.ref x,.str name tk],[]⟩) R s) (q:Q v s) :
  wpAny (model prog w) A (getAttrBy (.ref x) (.str name tk) fill expr) Q E s:=by
 have L0:=I.type (M:=model prog w);have L1:=PySem.W.looks_findIn (M:=model prog w) X a.ga;have L2:=PySem.W.looks_findIn (M:=model prog w) X a.gh;have f3:=F.excAttr_ValueError.ga.bind (.ref x);obtain ⟨hh,g,d,t,os⟩:=s;unfold getAttrBy;refine wpAny_holding (eo (L0.at (eo (L1.at ?_))));have hx2:(Value.builtin "BaseException.__getattribute__" == Value.builtin "object.__getattribute__")=false:=by decide +kernel
 have hx0:(expr && onTheHeap (Value.builtin "BaseException.__getattribute__"))=false:=by cases expr <;> rfl
 dsimp only;rw [hx2,fZ];simp only [Bool.false_eq_true,if_false];unfold getAttrByItsOwn hookBefore callGetattribute boundAndCalled;rw [hx0];simp only [Bool.false_eq_true,if_false,onTheHeap,if_true];refine eo (L2.at ?_);refine eo (wpAny_attempt (wpAny_holding ?_));rw [f3];refine eo (eJ ?_);refine wpAny_call (h _ _ ?_);exact PySem.W.handed_on hv q
theorem exc_cls {Q:Option Value->Shared->Prop} (a:ExA K D) (X:K.In s.heap) (I:PySem.W.InstAt s.heap x ox D od) (h:Q (some (.ref D)) { s with toks:=s.toks+1 }):wpAny (model prog w) A (getAttr? (.ref x) "__class__") Q E s:=by
 obtain ⟨hh,g,d,t,os⟩:=s;unfold getAttr? getAttrBy?;refine eo (wpAny_mkText (eo (wpAny_attempt ?_)));exact exc_by (s:=⟨hh,g,d,t+1,os⟩) a X I rfl (λ A R q=>exc_call_cls (s:=⟨hh,g,d,t+1,os⟩) a X I q) (eJ h)
theorem kitx_exc (a:ExA K D):PySem.W.KitX K (.ref x) (.ref D) (λ h=>∃ ox od,PySem.W.InstAt h x ox D od) where
 ty:=λ _ _ _ ⟨_,_,I⟩=>I.type
 it:=λ _ _ X _=>by
  obtain ⟨cdD,hcD⟩:=a.cl;unfold PySem.W.clsIn at hcD
  split at hcD
  ·rename_i c' d' cd' sl' ho;intro A' Q' E' s' k q;unfold isType loadHead;exact eo (wpAny_loadPart (k _ _ (X _ _ ho)) (eJ q))
  ·cases hcD
 ne:=λ h tp dd its n sl X htp=>by
  obtain ⟨cdD,hcD⟩:=a.cl;refine Bool.eq_false_iff.mpr λ q=>?_;have e:D=tp:=Value.ref.inj (beq_iff_eq.mp q);subst e;unfold PySem.W.clsIn at hcD
  split at hcD
  ·rename_i c' d' cd' sl' ho;have z:=(X _ _ ho).symm.trans htp
   cases z
  ·cases hcD
 ca:=λ X ⟨_,_,I⟩ k=>exc_cls a X I k
end
section
variable {X:Cx}
noncomputable def XAt (H:Hp) (x D:Addr):Prop:=H x=some (XO x D none)
theorem XAt.mono {H H':Hp} {x D:Addr} (h:XAt H x D) (s:Same H H'):XAt H' x D:=s _ _ h
noncomputable def rIsX (K:W.Frag) (c:Value):List V->Hp->VK->Prop:=λ vs H Q=>∃ x D y b,vs=[.ref x,y]/\(∀ u,RelV y u->u=c)/\XAt H x D/\ExA K D/\PySem.W.kitOne K (.ref D) c=some b/\Q (.bl b) H
theorem bR {c:Value}:bS X (.builtin "isinstance") (rIsX X.K c):=by
 intro pins s σ H xs us Q I r h;obtain ⟨x,D,y,b,rfl,hc,hx,ea,e,q⟩:=h
 cases r with
 | cons r1 r2=>
  cases r2 with
  | cons r3 r4=>
   cases r4
   have:=hc _ r3
   subst this
   cases r1;obtain ⟨⟨vs,sl,g⟩,_⟩:=(show ObjOk X.prog X.w H s.heap x (XO x D none) from I.hok x _ hx);exact fu (kitx_exc ea) I.kIn ⟨_,none,g,rfl,rfl,True.intro⟩ e (λ z=>nomatch z) λ tk=>⟨.bl b,H,I.tok tk,rfl,q⟩
noncomputable def bJ:List V->List V->Bool
 | [],[]=>true
 | x::xs,y::ys=>eqV x y && bJ xs ys
 | _,_=>false
theorem eqVs_len:∀ {xs ys:List V},xs.length≠ys.length->bJ xs ys=false
 | [],[],h=>absurd rfl h
 | [],_::_,_=>rfl
 | _::_,[],_=>rfl
 | x::xs,y::ys,h=>by
  show (eqV x y && bJ xs ys)=false;rw [eqVs_len (λ z=>h (fv (· + 1) z)),fZ]
noncomputable def dA (xs ys:List V) (j:Nat):Bool:=match xs[j]?,ys[j]? with | some x,some y=>eqV x y | _,_=>true
theorem eqVs_all:∀ {xs ys:List V},xs.length=ys.length->(List.range xs.length).all (dA xs ys)=bJ xs ys
 | [],[],_=>rfl
 | x::xs,y::ys,h=>by
  rw [eV,List.range_succ_eq_map,List.all_cons,List.all_map];show (eqV x y && _)=(eqV x y && bJ xs ys);rw [<- eqVs_all (Nat.succ.inj h)];rfl
theorem dL {xs:List V} {us:List Value} (r:Vals xs us):∀ {j:Nat} {x:V} {u:Value},xs[j]?=some x->us[j]?=some u->RelV x u:=by
 induction r with
 | nil=>intro j x u h;cases h
 | cons r1 _ ih=>
  intro j x u h1 h2
  cases j with
  | zero=>cases h1;cases h2;exact r1
  | succ j=>exact ih h1 h2
inductive IrEqL (K:W.Frag) (x:V) (y:V) (H:Hp) (Q:VK):Prop
 | mk (p:_) (q:_) (xs:_) (ys:_) (h1:x=.ref p) (h2:y=.ref q) (h3:SqL K H p xs) (h4:SqL K H q ys) (h5:xs.all bu=true) (h6:ys.all bu=true) (h7:Q (.bl (bJ xs ys)) H):IrEqL K x y H Q
theorem cM:bootBuiltins "ValueError"=some (.type "ValueError"):=by decide +kernel
end
end L2
namespace L2
open PySem PySem.Spec PyProof.Rows
inductive ItMethD (P:Program) (w:World) (K:W.Frag) (mg:Str->Option Value) (base:Heap) (CX:CXT) (m:Str) (j:Nat) (E:XK) (t:TA) (σ:St) (Q:VK) (x:V) (H1:Hp):Prop
 | mk (a:_) (C:_) (dx:_) (fs:_) (k:_) (ps:_) (sp:_) (h1:x=.ref a) (h2:H1 a=some (.ins C dx fs)) (h3:fs.lookup m=none) (h4:Cls K C) (h5:k<=j) (h6:MtB P w K mg base CX C m k ps sp) (h7:t σ H1 λ vs H2=>sp ((.ref a::vs)++[]) H2 Q E):ItMethD P w K mg base CX m j E t σ Q x H1
noncomputable def tMethD (P:Program) (w:World) (K:W.Frag) (mg:Str->Option Value) (base:Heap) (CX:CXT) (m:Str) (j:Nat) (E:XK) (ta:TE) (t:TA):TE:=λ σ H Q=>ta σ H λ x H1=>ItMethD P w K mg base CX m j E t σ Q x H1
structure ClsRd (K:W.Frag) (C:Addr):Prop where
 rd:PySem.W.readsIn K C (.type "type")=true
 sg:PySem.W.specialIn K (.ref C) "__getattribute__"=some (some (.builtin "type.__getattribute__"))
noncomputable def CfB (P:Program) (w:World) (K:W.Frag) (mg:Str->Option Value) (base:Heap) (CX:CXT) (C:Addr) (m:Str) (k:Nat) (ps:List Str) (sp:Sp):Prop:=
 ∃ f fd,ClsRd K C/\PySem.W.findCls K (.ref C) (.type "type") m=some (.val (.ref f))/\PySem.W.keepIn K (.ref f)=true/\Binds K fd ps []/\FnOk P w K mg base CX k f fd ps sp
section
variable {X:Cx} {CX:CXT} {k j:Nat} {C:Addr} {ps:List Str} {sp:Sp} {E:XK} {x m:Str} {p pos apos:Pos} {e o:Expr} {es:List Expr} {ta:TE} {t:TA}
theorem bT {pl:Sem Bool} (he:PE X o ta) (hr:Room j X.A) (hx:bw CX X E) (ha:PA X (e::es) t)
  (hst:starEach (e::es) X.env=(false,eval e X.env)::starEach es X.env:=by rfl) (hpl:(backTo pos (starEach es X.env)).any (·.1)=false:=by rfl)
  (ht:eval (.Call (.Attribute o m apos) (e::es) [] pos) X.env=(do
   let ov <- eval o X.env
   standAt apos.atName
   let (f,first) <- holding [ov] (getMethod ov m pl)
   callWith pos f first (backTo pos (starEach (e::es) X.env)) (backToKw pos (keywordEach [] X.env))):=by rfl):PE X (.Call (.Attribute o m apos) (e::es) [] pos) (tMethD X.prog X.w X.K X.mg X.base CX m j E ta t):=by
 intro pins s σ H Q I h;refine fV (pl:=pl) (thn (he pins s σ H _ I h) λ u s1 ⟨x,H1,I1,rx,a,C,dx,fs,k,ps,sp,ex,ea,l,c,hj,⟨f,fd,hm,hb,F⟩,q⟩=>?_) ht;subst ex;obtain rfl:u=Value.ref a:=rx;refine cG I1 ea c hm l ?_;refine fX (first:=[.ref a]) (h₀:=X.base) I.ok.mod.kin hm.kp (thn (ha pos pins s1 σ H1 _ I1 q) λ us s2 ⟨vs,H2,I2,r,q2⟩=>⟨I2.kIn,?_⟩) hst hpl;exact run_fn (us:=.ref a::us) (vs:=.ref a::vs) F (hr.mono hj) hb .nil hx I2 (.cons rfl r) q2
theorem cE {pl:Sem Bool} (he:PE X o ta) (hr:Room j X.A) (hx:bw CX X E)
  (ht:eval (.Call (.Attribute o m apos) [] [] pos) X.env=(do
   let ov <- eval o X.env
   standAt apos.atName
   let (f,first) <- holding [ov] (getMethod ov m pl)
   callWith pos f first (backTo pos (starEach [] X.env)) (backToKw pos (keywordEach [] X.env))):=by rfl):PE X (.Call (.Attribute o m apos) [] [] pos) (tMethD X.prog X.w X.K X.mg X.base CX m j E ta tNil):=by
 intro pins s σ H Q I h;refine fV (pl:=pl) (thn (he pins s σ H _ I h) λ u s1 ⟨x,H1,I1,rx,a,C,dx,fs,k,ps,sp,ex,ea,l,c,hj,⟨f,fd,hm,hb,F⟩,q⟩=>?_) ht;subst ex;obtain rfl:u=Value.ref a:=rx;refine cG I1 ea c hm l ?_;exact PySem.W.callWith_K0 (first:=[.ref a]) I1.kIn hm.kp (run_fn (us:=[.ref a]) (vs:=[.ref a]) F (hr.mono hj) hb .nil hx I1 (.cons rfl .nil) q)
theorem pe_cf {np:Pos} {pl:Sem Bool} (F:CfB X.prog X.w X.K X.mg X.base CX C m k ps sp) (hr:Room j X.A) (hm:X.mg x=some (.ref C)) (hx:bw CX X E) (ha:PA X (e::es) t) (hj:k<=j:=by decide) (hg:Gl X x:=by rfl) (hdb:(x == ("__debug__":Str))=false:=by decide)
  (hst:starEach (e::es) X.env=(false,eval e X.env)::starEach es X.env:=by rfl) (hpl:(backTo pos (starEach es X.env)).any (·.1)=false:=by rfl)
  (ht:eval (.Call (.Attribute (.Name x np) m apos) (e::es) [] pos) X.env=(do
   let ov <- eval (.Name x np) X.env
   standAt apos.atName
   let (f,first) <- holding [ov] (getMethod ov m pl)
   callWith pos f first (backTo pos (starEach (e::es) X.env)) (backToKw pos (keywordEach [] X.env))):=by rfl):PE X (.Call (.Attribute (.Name x np) m apos) (e::es) [] pos) (tCall sp [] E t):=by
 intro pins s σ H Q I h;obtain ⟨f,fd,c,hf,hk,hb,F⟩:=F;refine fV (pl:=pl) (bx I hg hm ?_ hdb) ht;refine PySem.W.method_cls I.kIn c.sg (PySem.W.cls_value I.kIn c.rd hf rfl ?_);have I1:=I.tok (s.toks+1);refine fX (first:=[]) (h₀:=X.base) I.ok.mod.kin hk (thn (ha pos pins _ σ H _ I1 h) λ us s2 ⟨vs,H2,I2,r,q2⟩=>⟨I2.kIn,?_⟩) hst hpl;exact run_fn (us:=us) (vs:=vs) F (hr.mono hj) hb .nil hx I2 r q2
end
section
variable {P:Program} {w:World} {K:W.Frag} {mg:Str->Option Value} {base:Heap} {x qual:Str} {C:Addr} {st:Stmt} {N ps:List Str} {k:Nat} {sp:Sp}
noncomputable def CDe (K:W.Frag) (C:Addr) (qual:Str) (st:Stmt) (ps:List Str):Prop:=∃ f fd,FunG K "__init__" qual st f fd/\ClsRd K C/\PySem.W.findCls K (.ref C) (.type "type") "__init__"=some (.val (.ref f))/\PySem.W.keepIn K (.ref f)=true/\Binds K fd ps []
theorem CDe.ok (F:CDe K C qual st ps) (S:FnScope N ps (ah st)) (len:∀ vs H Q E,sp vs H Q E->vs.length=ps.length)
  (hbody:∀ (f:Addr) (cdv:Value) (A:Around) (outer:List Env) (s:Shared) (H:Hp) (vs:List V) (Q:VK) (E:XK),Room k (A.deeper (envOfC qual (ah st) s.heap.objs.size f cdv))->sp vs H Q E->
   ∃ t,PSs (aL CX0 P w K mg base N qual (ah st) f cdv A outer s H E).nox (aS st) t/\t { nx:=λ _ H'=>Q .non H',rt:=Q } (bM N vs) H):CfB P w K mg base CX0 C "__init__" (k+1) ps sp:=
 let ⟨f,fd,a,b,c,d,e⟩:=F
 ⟨f,fd,b,c,d,e,a.ok S len (hbody f)⟩
end
end L2
namespace L2
open PySem PySem.Spec PyProof.Rows
section
variable {prog:Program} {w:World} {A:Around} {E:Value->Shared->Prop} {s:Shared}
end
section
variable {X:Cx} {pos:Pos}
end
end L2
namespace L2
open PySem PySem.Spec PyProof.Rows
noncomputable def BodyOk (P:Program) (w:World) (K:W.Frag) (mg:Str->Option Value) (base:Heap) (qual:Str) (st:Stmt) (N:List Str) (k:Nat) (sp:Sp):Prop:=
 ∀ (f:Addr) (cdv:Value) (A:Around) (outer:List Env) (s:Shared) (H:Hp) (vs:List V) (Q:VK) (E:XK),Room k (A.deeper (envOfC qual (ah st) s.heap.objs.size f cdv))->sp vs H Q E->
  ∃ t,PSs (aL CX0 P w K mg base N qual (ah st) f cdv A outer s H E).nox (aS st) t/\t { nx:=λ _ H'=>Q .non H',rt:=Q } (bM N vs) H
end L2
namespace L2
open PySem PySem.Spec PyProof.Rows
section
variable {prog:Program} {w:World} {A:Around} {E:Value->Shared->Prop} {h:Heap} {g:Array GenState} {d:Drawn} {t:Nat} {os:OsState}
variable {nm q:Str} {C N:Addr} {bs bm bmB:List Value} {hdct:Bool} {sn:List Str} {sub:List Value} {ab:Bool} {col:Option Bool} {dd:Option Addr} {k0 k1 k2 k3 k5:Option Value} {B newId initId:String}
theorem type_call_initT (F:ExcBaseFacts B newId initId bmB) (T:OwnTail h bmB bm) {mN:Str->Option Value} {rest:List Value} {fI:Addr} {oI:Obj} {Q:Fin->Shared->Prop}
  (hC:h.get? C=some (excClassObj nm q C N bs bm hdct sn sub ab col dd k0 k1 k2 k3 k5 newId)) (hn:h.Ns N mN) (hi:mN "__init__"=some (.ref fI))
  (hfI:h.get? fI=some oI) (hfc:oI.cls=.type "function")
  (hq:∀ h' e,Heap.MadeExcOf h h' e (.ref C) rest->
   wpAny (model prog w) A (call (.ref fI) (.ref e::rest)) (λ r s'=>r=.none/\Q (.done (.ret (.ref e))) s') E ⟨h',g,d,t,os⟩) (hrest:rest.length<=sizeLine:=by size_fits) :
  wpAny (model prog w) A (Builtin.«type.__call__» ⟨.ref C::rest,[]⟩) Q E ⟨h,g,d,t,os⟩:=by
 repeat (first | with_reducible refine wpAny_loadPart_at hC ?_ | with_reducible refine wpAny_madeBy_exc hC ?_ | wp_step)
 refine codeAny_call_builtin_code (Code.quiet_builtin _ F.quiet) (wpAny_check_new_subT F T hC ?_);refine codeAny_exc_new_subT F T hC ?_ hrest;show wpAny _ _ _ _ _ _
 have hC₁:=eA { cls:=.ref C,data:=.fields #[.ref h.objs.size,.none,.none,.none,.bool false,.none] }
  (eA { cls:=.type "tuple",data:=.seq rest.toArray } hC)
 have hfI₁:=eA { cls:=.ref C,data:=.fields #[.ref h.objs.size,.none,.none,.none,.bool false,.none] }
  (eA { cls:=.type "tuple",data:=.seq rest.toArray } hfI)
 have hn₁:((h.push { cls:=.type "tuple",data:=.seq rest.toArray }).push { cls:=.ref C,data:=.fields #[.ref h.objs.size,.none,.none,.none,.bool false,.none] }).Ns N mN:=
  let ⟨o,es,ep,e,r⟩:=hn;⟨o,es,ep,eA _ (eA _ e),r⟩
 have hget:((h.push { cls:=.type "tuple",data:=.seq rest.toArray }).push
   { cls:=.ref C,data:=.fields #[.ref h.objs.size,.none,.none,.none,.bool false,.none] }).get? (h.objs.size+1)=some
   { cls:=.ref C,data:=.fields #[.ref h.objs.size,.none,.none,.none,.bool false,.none] }:=by heap_get
 have hcC:(Value.ref C::bm).contains (.ref C)=true:=by simp
 have T₁:=T.keeps (h':=(h.push { cls:=.type "tuple",data:=.seq rest.toArray }).push { cls:=.ref C,data:=.fields #[.ref h.objs.size,.none,.none,.none,.bool false,.none] })
  λ b o e=>eA _ (eA _ e)
 unfold isInstance
 repeat (first | with_reducible refine wpAny_loadPart_at hget ?_ | (with_reducible refine wpAny_isSubtype_exc hC₁ ?_;rw [hcC]) | wp_step)
 show wpAny _ _ (typeLookup (.ref C) _) _ _ _;refine wpAny_typeLookup_tail hC₁ hn₁ T₁ F.mroIs F.init.lookup ?_;rw [hi];refine wpAny_holding (eo ?_);unfold bindSpecial;refine eo (wpAny_typeOf (T:="function") ⟨_,hfI₁,hfc⟩ ?_);rw [if_pos (by decide)];refine eJ (eo (fh (hq _ (h.objs.size+1) ⟨λ b o hb=>eA _ (eA _ hb),Heap.get?_none_of_le (Nat.le_succ _),h.objs.size,hget,Heap.get?_none_of_le (eC _),?_⟩) (λ r s' hr=>?_) λ _ _ x=>x))
 ·exact eA _ (Heap.get?_push_at rfl rfl)
 ·obtain ⟨rfl,hQ⟩:=hr
  wp_walk
  exact hQ
theorem call_initT (F:ExcBaseFacts B newId initId bmB) (T:OwnTail h bmB bm) {mN:Str->Option Value} {rest:List Value} {fI:Addr} {oI:Obj} {Q:Value->Shared->Prop}
  (hC:h.get? C=some (excClassObj nm q C N bs bm hdct sn sub ab col dd k0 k1 k2 k3 k5 newId)) (hn:h.Ns N mN) (hi:mN "__init__"=some (.ref fI))
  (hfI:h.get? fI=some oI) (hfc:oI.cls=.type "function")
  (hq:∀ h' e,Heap.MadeExcOf h h' e (.ref C) rest->
   wpAny (model prog w) (A.under (.builtin "type.__call__" ⟨.ref C::rest,[]⟩)) (call (.ref fI) (.ref e::rest)) (λ r s'=>r=.none/\Q (.ref e) s') E ⟨h',g,d,t,os⟩) (hrest:rest.length<=sizeLine:=by size_fits) :
  wpAny (model prog w) A (call (.ref C) rest) Q E ⟨h,g,d,t,os⟩:=by
 have f1:=tc_lookup;have f2:=tc_bind (.ref C);have hT:(⟨h,g,d,t,os⟩:Shared).TypeIs (.ref C) "type":=⟨_,hC,rfl⟩;refine wpAny_call (codeAny_of_tree ?_);show wpAny _ _ (callAny (.ref C) _) _ _ _
 repeat (any_goals (first | assumption | with_reducible refine wpAny_loadPart_at hC ?_ | wp_step))
 refine ⟨rfl,?_⟩;refine codeAny_call_builtin_at (Code.quiet_builtin _ (by decide +kernel)) entry_typeCall (wpAny_check_type_call_sub hC (type_call_initT (hrest:=hrest) F T hC hn hi hfI hfc λ h' e hm=>?_));exact hq h' e hm
end
end L2
namespace L2
open PySem PySem.Spec PyProof.Rows
open Builtin Builtin.ObjectAttr
section
theorem refuse_bmV (self:Value):refuseLoop self "__setattr__" bmV=pure ():=by kernel_rfl
structure ExI (K:W.Frag) (C:Addr):Prop where
 cl:∃ (cd:ClassData) (tl:List Addr),PySem.W.clsIn K C=some cd/\cd.mro=tl.map Value.ref++bmV/\cd.hasDict=true
 sa:PySem.W.findIn K (.ref C) "__setattr__"=some (some (.builtin "object.__setattr__"))
theorem refuse_tail (self:Value):∀ tl:List Addr,refuseLoop self "__setattr__" (tl.map Value.ref++bmV)=pure ()
 | []=>refuse_bmV self
 | a::tl=>by
  rw [fz,List.cons_append,refuseLoop_ref];exact refuse_tail self tl
variable {prog:Program} {w:World} {A:Around} {E:Value->Shared->Prop} {s:Shared} {K:W.Frag} {x C:Addr} {o:Obj} {od:Option Obj} {name:Str} {v:Value}
theorem exc_open {tk:Tok} {R:Result->Shared->Prop} (X:K.In s.heap) (I:PySem.W.InstAt s.heap x o C od) (F:ExI K C) (n:NoAttr K C name)
  (h:∀ b,wpAny (model prog w) A.in1 (storeInOwnDict (.ref x) (.ref C) (.str name tk) name v b)
   (λ fin s'=>match fin with | .done f=>R (.ok f) s' | .again c'=>c'.quiet=true/\codeAny (model prog w) A c' R s') (λ e s'=>R (.error e) s') s) :
  codeAny (model prog w) A (.call (.builtin "object.__setattr__") ⟨[.ref x,.str name tk,v],[]⟩) R s:=by
 have SF:=PySem.F.store_object;obtain ⟨cd,tl,hc,hm,hd⟩:=F.cl;have has:cd.mro.contains (.type "object")=true:=by rw [hm];simp
 have ne:cd.mro.isEmpty=false:=by rw [hm];simp
 have sub:PySem.W.Looks (model prog w) s.heap (isInstance (.ref x) (.type "object")) true:=I.type.andThen (PySem.W.looks_mroIn X (by unfold PySem.W.mroIn;rw [hc,Option.bind_some,if_neg (by rw [ne];decide),has]));refine codeAny_call_builtin SF.slot.plain SF.entry (@PySem.W.check_slot (model prog w) _ _ s "object.__setattr__" "object" "__setattr__" (.ref x) [.str name tk,v] [] _ SF.kind SF.split sub (SF.args (.ref x) (.str name tk) v) ?_);obtain ⟨attr,ha,hr⟩:=Option.bind_eq_some_iff.mp n.taker;have hmr:PySem.W.Looks (model prog w) s.heap (mroOf (.ref C)) cd.mro:=(PySem.W.looks_clsIn X hc).andThen .now
 have L3:PySem.W.Looks (model prog w) s.heap (storeTaker? attr) none:=by
  cases attr with
  | none=>cases hr;exact .now
  | some a=>
   obtain ⟨b,hb,hr⟩:=fj.mp hr;refine (PySem.W.looks_takesIn X hb).andThen ?_
   cases b with
   | true=>cases hr
   | false=>exact .now
 rw [PySem.W.osa_eq,refuse_eq];refine eo (eo (I.type.here (eo (hmr.here ?_))));rw [hm,refuse_tail];refine eJ (eo (I.type.here (eo ((PySem.W.looks_findIn X ha).here (eo (L3.here ?_))))));exact h _
theorem exc_set0 {Q:Unit->Shared->Prop} (X:K.In s.heap) (F:ExI K C) (n:NoAttr K C name) (hx:s.heap.get? x=some o) (hc:o.cls=.ref C) (hnc:∀ c,o.data≠.cls c) (hdn:o.dict=none)
  (hq:∀ h' tk',h'.get? x=some { cls:=o.cls,dict:=some s.heap.objs.size,data:=o.data,slots:=o.slots }->h'.Ns1 s.heap.objs.size (λ y=>if y=name then some v else none)->
   (∀ b ob,b≠x->s.heap.get? b=some ob->h'.get? b=some ob)->Q () { s with heap:=h',toks:=tk' }) :
  wpAny (model prog w) A (setAttr (.ref x) name v) Q E s:=by
 have hno:PySem.W.notCls o=true:=by
  unfold PySem.W.notCls
  split
  ·rename_i c e;exact absurd e (hnc c)
  ·rfl
 have I:PySem.W.InstAt s.heap x o C none:=⟨hx,hc,hno,by rw [hdn];trivial⟩;refine PySem.W.set_plain X I F.sa (exc_open (s:={ s with toks:=s.toks+1 }) X I F n λ b=>?_);obtain ⟨cd,tl,hcl,hm,hd⟩:=F.cl;obtain ⟨h,g,d,t,os⟩:=s;dsimp only at hx X hq;have hx₁:(h.push { cls:=.type "dict",data:=.dict #[] }).get? x=some o:=eA _ hx;have hxs:x≠h.objs.size:=fg (eL hx);unfold storeInOwnDict ownDictForStores instanceDict;refine eo (eJ (eo (eo (wpAny_loadPart hx ?_))));rw [hc];refine eo ((PySem.W.looks_clsIn X hcl).at ?_);rw [hd,hdn];simp only [Bool.not_true,Bool.false_eq_true,if_false];have hth:typeHasDict (.ref C)=true:=by simp [typeHasDict]
 rw [hth];simp only [Bool.not_true,Bool.or_self,Bool.false_eq_true,if_false];refine eo (wpAny_alloc' (eo (wpAny_update' hx₁ (eJ ?_))))
 have hgd:((h.push { cls:=.type "dict",data:=.dict #[] }).update x λ o=>{ cls:=o.cls,dict:=some h.objs.size,data:=o.data,slots:=o.slots }).get? h.objs.size
   = some { cls:=.type "dict",data:=.dict #[] }:=
  (Heap.get?_update_ne _ _ _ _ hxs.symm).trans (Heap.get?_push_at rfl rfl)
 have hnd:((h.push { cls:=.type "dict",data:=.dict #[] }).update x λ o=>{ cls:=o.cls,dict:=some h.objs.size,data:=o.data,slots:=o.slots }).Ns h.objs.size (λ _=>none):=
  ⟨_,#[],_,hgd,rfl,λ e he=>absurd he (by simp),λ _=>rfl⟩
 show wpAny _ _ (storeInDict h.objs.size (.str name t) name v) _ _ _;unfold storeInDict newKeyGuard;refine eo (eJ (eo (wpAny_nsSet1 (Heap.Ns1.of_empty hnd) λ h' hn' hs=>?_)));obtain ⟨oD,esD,epD,hoD,hdD,hcD⟩:=hn'.count (Within.cons name v Within.nil);refine eo (wpAny_lookBehind hoD (by rw [hdD];exact pastItsLine_dict (eQ hcD (by rw [eV,List.length_nil,sizeLine_eq];omega))) ?_);refine eJ (hq h' _ ?_ hn' (λ b ob hbx hb=>?_))
 ·refine (hs.2 x hxs).trans (Heap.get?_update_self _ hx₁ ?_);have hfr:=(Heap.get?_some_iff.mp hx).2;obtain ⟨oc,od,odt,osl⟩:=o
  cases odt <;> first | rfl | exact hfr
 ·exact (hs.2 b (fg (eL hb))).trans ((Heap.get?_update_ne _ _ _ _ hbx).trans (eA _ hb))
theorem exc_base_init {nm q:Str} {N:Addr} {bs bm bmB:List Value} {hdct:Bool} {sn:List Str} {sub:List Value} {ab:Bool} {col:Option Bool} {dd de:Option Addr} {k0 k1 k2 k3 k5:Option Value} {B newId initId:String} {e t0:Addr} {rest:List Value} {Q:Value->Shared->Prop}
  (F:ExcBaseFacts B newId initId bmB) (T:OwnTail s.heap bmB bm) (hC:s.heap.get? C=some (excClassObj nm q C N bs bm hdct sn sub ab col dd k0 k1 k2 k3 k5 newId)) (he:s.heap.get? e=some ⟨.ref C,de,.fields #[.ref t0,.none,.none,.none,.bool false,.none],#[]⟩)
  (hq:∀ h' t1,h'.get? e=some ⟨.ref C,de,.fields #[.ref t1,.none,.none,.none,.bool false,.none],#[]⟩->(∀ b ob,b≠e->s.heap.get? b=some ob->h'.get? b=some ob)->Q .none { s with heap:=h' }) (hrest:rest.length<=sizeLine) :
  wpAny (model prog w) A (call (.builtin initId) (.ref e::rest)) Q E s:=by
 obtain ⟨h,g,d,t,os⟩:=s;dsimp only at hC he hq T;refine wpAny_call (codeAny_call_builtin F.init.plain F.initEntry (wpAny_check_init_subT F T hC he rfl ?_))
 wp_walk
 refine hq _ h.objs.size ?_ λ b ob hb e=>?_
 ·rw [Heap.get?_update_self _ (eA _ he) rfl];rfl
 ·rw [fK _ _ (Ne.symm hb)];exact eA _ e
theorem dF {M:Model} {env:Env} {nm q:Str} {N:Addr} {bs bm:List Value} {hdct:Bool} {sn:List Str} {sub:List Value} {ab:Bool} {col:Option Bool} {dd:Option Addr} {k0 k1 k2 k3 k5:Option Value} {newId:String} {y:Sem Value} {Q:Flow->Shared->Prop} (hbase:bm.contains (.type "BaseException")=true) (hh:A.handled=none)
  (h:wpAny M A y (λ v s₁=>∃ e t de,v=.ref e/\s₁.heap.get? C=some (excClassObj nm q C N bs bm hdct sn sub ab col dd k0 k1 k2 k3 k5 newId)/\
   s₁.heap.get? e=some ⟨.ref C,de,.fields #[.ref t,.none,.none,.none,.bool false,.none],#[]⟩/\E (.ref e) s₁) E s) :
  wpAny M A (raiseStmt env (some y) none) Q E s:=by
 have hcB:(Value.ref C::bm).contains (.type "BaseException")=true:=by rw [List.contains_cons,hbase,Bool.or_true]
 unfold raiseStmt;refine eo (fh h (λ v s₁ h₁=>?_) λ _ _ x=>x);obtain ⟨e,t,de,rfl,hC,he,hE⟩:=h₁;obtain ⟨hp,g,d,tk,os⟩:=s₁
 repeat (first | with_reducible refine wpAny_loadPart_at he ?_ | with_reducible refine wpAny_loadPart_at hC ?_ | (with_reducible refine wpAny_isSubtype_exc hC ?_;rw [hcB]) | wp_step)
 exact wpAny_raiseNew_none hh hE
noncomputable def excFI (K:W.Frag) (C:Addr) (bmB:List Value) (newId:String):Option Addr:=match K.lookup C with
 | some ⟨.type "type",_,.cls cd,sl⟩=>(match cd.mro,sl.toList with
  | .ref C'::bm,[_,_,_,_,some (.builtin n),_]=>if (C' == C && n == newId && !cd.hasDel && PySem.W.tailIn K bmB bm && PySem.W.nsOkIn K cd.ns)=true then (match PySem.W.nsIn K cd.ns "__init__" with | some (some (.ref f))=>some f | _=>none) else none
  | _,_=>none)
 | _=>none
theorem ns_of {h:Heap} {N:Addr} {mg:Str->Option Value} {n:Str} {v:Value} (X:K.In h) (G:h.Ns N mg) (e:PySem.W.nsIn K N n=some (some v)):mg n=some v:=by
 obtain ⟨o,es,ep,ho,hd,_,hf⟩:=G;unfold PySem.W.nsIn at e
 split at e
 ·rename_i c d es' n' sl q
  have:=X _ _ q
  rw [ho] at this
  cases this
  cases hd
  split at e
  ·rename_i en he
   cases e;rw [<- hf];unfold nsFind findBy;rw [<- Array.find?_toList,he];rfl
  ·split at e <;> cases e
 ·cases e
theorem exc_objI {h:Heap} {bmB:List Value} {newId:String} {f:Addr} (X:K.In h) (q:excFI K C bmB newId=some f) :
  ∃ bm N nm qn bs hd sn sub ab col dd k0 k1 k2 k3 k5 mN,h.get? C=some (excClassObj nm qn C N bs bm hd sn sub ab col dd k0 k1 k2 k3 k5 newId)/\h.Ns N mN/\mN "__init__"=some (.ref f)/\OwnTail h bmB bm:=by
 unfold excFI at q
 split at q
 case h_2=>cases q
 case h_1 dd cd sl lk=>
  split at q
  case h_2=>cases q
  case h_1 C' bm k0 k1 k2 k3 n k5 hm hs=>
   split at q
   case isFalse=>cases q
   case isTrue hq=>
    simp only [Bool.and_eq_true,beq_iff_eq,Bool.not_eq_true'] at hq;obtain ⟨⟨⟨⟨e1,e2⟩,hdel⟩,ht⟩,hok⟩:=hq;subst e1 e2
    split at q
    case h_2=>cases q
    case h_1 f' hi=>
     cases q;obtain ⟨nm,bs,mro,ns,qn,hd,sn,sub,ab,col,del⟩:=cd;dsimp only at hm hdel hok hi;subst hm hdel;obtain ⟨l⟩:=sl;have hs:l=_:=hs;subst hs;exact ⟨bm,ns,nm,qn,bs,hd,sn,sub,ab,col,dd,k0,k1,k2,k3,k5,_,X _ _ lk,.of_isNs (PySem.W.isNs_of_in X hok),ns_of X (.of_isNs (PySem.W.isNs_of_in X hok)) hi,PySem.W.tail_of_in X ht⟩
end
end L2
namespace L2
open PySem PySem.Spec PyProof.Rows
section
variable {prog:Program} {w:World} {A:Around} {E:Value->Shared->Prop} {s:Shared} {env:Env}
variable {nm q:Str} {C N:Addr} {bs bm bmB:List Value} {hdct:Bool} {sn:List Str} {sub:List Value} {ab:Bool} {col:Option Bool} {dd:Option Addr} {k0 k1 k2 k3 k5:Option Value} {B newId initId:String}
theorem Raise_call_initT (F:ExcBaseFacts B newId initId bmB) {mN:Str->Option Value} {fI:Addr} {oI:Obj} {x:Str} {np cpos pos:Pos} {args:List Expr} {Q:Flow->Shared->Prop}
  (hbase:bm.contains (.type "BaseException")=true) (hh:A.handled=none) (hplain:(backTo cpos (starEach args env)).any (·.1)=false) (hi:mN "__init__"=some (.ref fI)) (hfc:oI.cls=.type "function")
  (h:wpAny (model prog w) A (eval (.Name x np) env) (λ f s₁=>f=.ref C/\wpAny (model prog w) A (evalArgs (.ref C) true (backTo cpos (starEach args env)) [])
   (λ a s₂=>a.kw=[]/\a.pos.length<=sizeLine/\s₂.heap.get? C=some (excClassObj nm q C N bs bm hdct sn sub ab col dd k0 k1 k2 k3 k5 newId)/\s₂.heap.Ns N mN/\OwnTail s₂.heap bmB bm/\s₂.heap.get? fI=some oI/\
    ∀ h' e,Heap.MadeExcOf s₂.heap h' e (.ref C) a.pos->wpAny (model prog w) (A.under (.builtin "type.__call__" ⟨.ref C::a.pos,[]⟩)) (call (.ref fI) (.ref e::a.pos))
     (λ r s'=>r=.none/\(∃ t de,s'.heap.get? C=some (excClassObj nm q C N bs bm hdct sn sub ab col dd k0 k1 k2 k3 k5 newId)/\s'.heap.get? e=some ⟨.ref C,de,.fields #[.ref t,.none,.none,.none,.bool false,.none],#[]⟩)/\E (.ref e) s') E { s₂ with heap:=h' }) E s₁) E s) :
  wpAny (model prog w) A (exec (.Raise (some (.Call (.Name x np) args [] cpos)) none pos) env) Q E s:=by
 rw [arm_exec_Raise]
 first
  | refine eo (wpAny_standAt (dF (C:=C) (nm:=nm) (q:=q) (N:=N) (bs:=bs) (bm:=bm) (hdct:=hdct) (sn:=sn) (sub:=sub) (ab:=ab) (col:=col) (dd:=dd) (k0:=k0) (k1:=k1) (k2:=k2) (k3:=k3) (k5:=k5) (newId:=newId) hbase hh (eo (fh (wpAny_Call_ofName (fh h (λ f s₁ h₁=>?_) λ _ _ x=>x)) (λ v s₃ h₃=>eo (wpAny_standAt (eJ h₃))) λ _ _ x=>x))))
  | (simp only [evalOpt,Option.map];refine eo (wpAny_standAt (dF (C:=C) (nm:=nm) (q:=q) (N:=N) (bs:=bs) (bm:=bm) (hdct:=hdct) (sn:=sn) (sub:=sub) (ab:=ab) (col:=col) (dd:=dd) (k0:=k0) (k1:=k1) (k2:=k2) (k3:=k3) (k5:=k5) (newId:=newId) hbase hh (eo (fh (wpAny_Call_ofName (fh h (λ f s₁ h₁=>?_) λ _ _ x=>x)) (λ v s₃ h₃=>eo (wpAny_standAt (eJ h₃))) λ _ _ x=>x)))))
  | (refine eo (wpAny_standAt (dF (C:=C) (nm:=nm) (q:=q) (N:=N) (bs:=bs) (bm:=bm) (hdct:=hdct) (sn:=sn) (sub:=sub) (ab:=ab) (col:=col) (dd:=dd) (k0:=k0) (k1:=k1) (k2:=k2) (k3:=k3) (k5:=k5) (newId:=newId) hbase hh ?_));refine eo (fh (wpAny_Call_ofName (fh h (λ f s₁ h₁=>?_) λ _ _ x=>x)) (λ v s₃ h₃=>eo (wpAny_standAt (eJ h₃))) λ _ _ x=>x))
 obtain ⟨rfl,h₁⟩:=h₁;unfold callWith;refine eo (wpAny_holding (fh h₁ (λ a s₂ h₂=>eo (wpAny_standAt ?_)) λ _ _ x=>x));obtain ⟨apos,akw⟩:=a;obtain ⟨hkw,hlen,hC,hn,T,hf,h₂⟩:=h₂;obtain rfl:akw=[]:=hkw;obtain ⟨hp,g,d,tk,os⟩:=s₂;simp only [hplain];refine eo (wpAny_keeperOf_exc hC ?_);refine eo (call_initT (hrest:=hlen) F T hC hn hi hf hfc λ h' e hm=>fh (h₂ h' e hm) (λ r s' z=>?_) λ _ _ z=>z);obtain ⟨rfl,⟨t,de,g1,g2⟩,z⟩:=z;exact ⟨rfl,eo (wpAny_holding (wpAny_point (eJ ⟨e,t,de,rfl,g1,g2,z⟩)))⟩
end
noncomputable def XI (e C:Addr) (d:Option Addr):HO:=.ext λ h=>∃ t,h.get? e=some ⟨.ref C,d,.fields #[.ref t,.none,.none,.none,.bool false,.none],#[]⟩
noncomputable def del (H:Hp) (e:Addr):Hp:=λ b=>if b=e then none else H b
section
variable {X:Cx} {pins:List (Addr × Obj)} {σ:St} {H:Hp} {s:Shared} {x:Addr}
theorem XI.ok {P:Program} {w:World} {h:Heap} {C t:Addr} {d:Option Addr} (e:h.get? x=some ⟨.ref C,d,.fields #[.ref t,.none,.none,.none,.bool false,.none],#[]⟩):ObjOk P w H h x (XI x C d):=
 ⟨⟨t,e⟩,⟨_,e⟩,λ _ _ ⟨t',e'⟩ k=>⟨t',k _ e'⟩⟩
theorem Inv.forget {φ:Heap->Prop} (I:Inv X pins σ H s) (hx:H x=some (.ext φ)):Inv X pins σ (del H x) s:=by
 have nn:∀ b,H b=none->del H x b=none:=λ b e=>by unfold del;split;rfl;exact e
 have st:∀ b u,H b=some u->(∀ φ,u≠.ext φ)->del H x b=some u:=λ b u e ne=>by
  unfold del;rw [if_neg]
  ·exact e
  ·rintro rfl;rw [hx] at e
   cases e;exact ne _ rfl
 refine ⟨I.ok,I.os,I.bare,⟨I.base.keep,I.base.slot,λ b u e n hx=>nn b (I.base.free b u e n hx),I.base.there,λ b xs e=>st b _ (I.base.tups b xs e) (by nofun),λ b u v e=>st b _ (I.base.frzs b u v e) (by nofun),λ b ps e=>?_⟩,
  I.loc,I.cell,nn _ I.free,λ y c e=>nn _ (I.freeC y c e),λ p hp=>?_,λ b u e=>?_,I.len⟩
 ·obtain ⟨more,q⟩:=I.base.tbls b ps e;exact ⟨more,st b _ q (by nofun)⟩
 ·obtain ⟨e,n,r⟩:=I.pin p hp;exact ⟨e,nn _ n,r⟩
 ·have e':H b=some u:=by
   unfold del at e
   split at e
   ·cases e
   ·exact e
  exact (I.hok b u e').stay (λ _ _ _ q=>q) (λ c q=>st c _ q (by nofun)) λ c xs q=>st c _ q (by nofun)
end
end L2
namespace L2
open PySem PySem.Spec PyProof.Rows
noncomputable def XiB (P:Program) (w:World) (K:W.Frag) (mg:Str->Option Value) (base:Heap) (C:Addr) (k:Nat) (ps:List Str) (sp:Sp):Prop:=
 ∃ f fd,excFI K C bmV "ValueError.__new__"=some f/\PySem.W.typeIn K (.ref f)=some (.type "function")/\Binds K fd ps []/\FnOk P w K mg base CX0 k f fd ps sp
section
variable {X:Cx} {E:XK}
noncomputable def tRaiseI (C:Addr) (sp:Sp) (E:XK) (t:TA):TS:=λ _ σ H=>t σ H λ vs H1=>vs.length<=sizeLine/\
 ∀ e,H1 e=none->sp ((.ref e::vs)++[]) (upd H1 e (XI e C none)) (λ v H2=>v=.non/\∃ d,H2 e=some (XI e C d)/\E (.ref C) d (del H2 e)) E0
theorem ps_raiseI {C:Addr} {x:Str} {np cpos pos:Pos} {e:Expr} {es:List Expr} {t:TA} {k j:Nat} {ps:List Str} {sp:Sp} (hxe:XOut X E) (hex:X.ex=[]) (hr:Room j X.A) (hg:Gl X x) (hm:X.mg x=some (.ref C))
  (O:XiB X.prog X.w X.K X.mg X.base C k ps sp) (ha:PA X (e::es) t) (hj:k+1<=j:=by decide) (he:starEach (e::es) X.env=(false,eval e X.env)::starEach es X.env:=by rfl) (hpl:(backTo cpos (starEach es X.env)).any (·.1)=false:=by rfl)
  (hd:(x == ("__debug__":Str))=false:=by decide):PS X (.Raise (some (.Call (.Name x np) (e::es) [] cpos)) none pos) (tRaiseI C sp E t):=by
 intro pins s σ H D I h;obtain ⟨f,fd,hfi,hft,hb,F⟩:=O;obtain ⟨bm,N,nm,qn,bs,hd',sn,sub,ab,col,dd,k0,k1,k2,k3,k5,mN,hC,hN,hi,T⟩:=exc_objI I.ok.mod.kin hfi;obtain ⟨oI,hoI,hcI⟩:=fj.mp hft
 refine Raise_call_initT (C:=C) (nm:=nm) (q:=qn) (N:=N) (bs:=bs) (bm:=bm) (hdct:=hd') (sn:=sn) (sub:=sub) (ab:=ab) (col:=col) (dd:=dd) (k0:=k0) (k1:=k1) (k2:=k2) (k3:=k3) (k5:=k5)
  PySem.F.excBase_ValueError (mN:=mN) (fI:=f) (oI:=oI) (T.hasType rfl) hr.hd (by rw [he];show (false || (backTo cpos (starEach es X.env)).any (·.1))=false;rw [hpl];rfl) hi hcI (bx I hg hm ⟨rfl,?_⟩ hd)
 have ha':=ha cpos pins s σ H _ I h;rw [he] at ha' ⊢;refine Calls.evalArgs_plain (thn ha' λ us s1 ⟨vs,H1,I1,r,hl,q⟩=>⟨rfl,by rw [<- r.length];exact hl,I1.bk _ _ hC,hN.keeps I1.bk,T.keeps I1.bk,I1.bk _ _ (I.ok.mod.kin _ _ hoI),λ h' y hy=>?_⟩);obtain ⟨t',g1,_,_⟩:=hy.there;have ny:=I1.hok.noObj hy.new;have J:Inv X pins σ (upd H1 y (XI y C none)) { s1 with heap:=h' }:=(I1.kept (t':=s1.toks) hy.keeps).track ny (I1.off hex hy.new) (XI.ok g1);have hq:=q y ny;have r2:Vals ((V.ref y::vs)++[]) ((Value.ref y::us)++[]):=Vals.append (.cons rfl r) .nil;have hl2:((Value.ref y::us)++[]).length=ps.length:=by rw [<- r2.length];exact F.len _ _ _ _ hq
 refine wpAny_call (codeAny_mono (F.run _ X.stack _ _ ⟨Value.ref y::us,[]⟩ _ _ _ E0 ((hr.mono hj).make C us []) (J.env0.make C us []) (hb _ (Value.ref y::us) J.kIn hl2) r2 hq) λ r s' hq'=>?_)
 cases r with
 | error e=>exact False.elim hq'
 | ok fl=>
  cases fl with
  | ret u=>
   obtain ⟨v,H',I3,rv,ev,d,hx,q3⟩:=J.after hq';subst ev;obtain ⟨⟨t2,g2⟩,_⟩:=(show ObjOk X.prog X.w H' s'.heap y (XI y C d) from I3.hok y _ hx);refine ⟨rv,⟨t2,d,I3.bk _ _ hC,g2⟩,?_⟩;refine hxe pins σ _ _ ⟨y,.ref C,d,del H' y,rfl,I3.forget hx,⟨by unfold del;rw [if_pos rfl],I1.off hex hy.new,_,_,none,g2,rfl,λ T z=>by cases z⟩,q3⟩
  | next=>exact False.elim hq'
  | brk=>exact False.elim hq'
  | cont=>exact False.elim hq'
end
end L2
namespace L2
open PySem PySem.Spec PyProof.Rows
section
variable {X:Cx} {e e1 e2 value:Expr} {es:List Expr} {pos apos np pos':Pos} {t:TA} {ta tv t1 t2:TE} {x f:Str} {G:Addr}
theorem upd_id {H:Hp} {a:Addr} {o:HO} (h:H a=some o):upd H a o=H:=by
 funext b
 by_cases hb:b=a
 ·subst hb;rw [ac,h]
 ·rw [ag hb]
noncomputable def tBI (K:W.Frag) (t:TA):TE:=λ σ H Q=>t σ H λ vs H1=>∃ e C d rest f,vs=.ref e::rest/\H1 e=some (XI e C d)/\excFI K C bmV "ValueError.__new__"=some f/\rest.length<=sizeLine/\Q .non H1
theorem pe_binit {pl:Sem Bool} (cr:ClsRd X.K G) (hf:PySem.W.findCls X.K (.ref G) (.type "type") "__init__"=some (.val (.builtin "ValueError.__init__"))) (hm:X.mg x=some (.ref G)) (ha:PA X (e::es) t) (hg:Gl X x:=by rfl) (hdb:(x == ("__debug__":Str))=false:=by decide)
  (hst:starEach (e::es) X.env=(false,eval e X.env)::starEach es X.env:=by rfl) (hpl:(backTo pos (starEach es X.env)).any (·.1)=false:=by rfl)
  (ht:eval (.Call (.Attribute (.Name x np) "__init__" apos) (e::es) [] pos) X.env=(do
   let ov <- eval (.Name x np) X.env
   standAt apos.atName
   let (f,first) <- holding [ov] (getMethod ov "__init__" pl)
   callWith pos f first (backTo pos (starEach (e::es) X.env)) (backToKw pos (keywordEach [] X.env))):=by rfl):PE X (.Call (.Attribute (.Name x np) "__init__" apos) (e::es) [] pos) (tBI X.K t):=by
 intro pins s σ H Q I h;refine fV (pl:=pl) (bx I hg hm ?_ hdb) ht;refine PySem.W.method_cls I.kIn cr.sg (PySem.W.cls_value I.kIn cr.rd hf (by decide +kernel) ?_);have I1:=I.tok (s.toks+1);refine PyProof.Rows.callWith_builtin1 (thn (ha pos pins _ σ H _ I1 h) λ us s1 ⟨vs,H1,I2,r1,q1⟩=>?_) hst hpl;obtain ⟨y,C,d,rest,fi,rfl,hy,hfi,hl,q⟩:=q1
 cases r1 with
 | cons r2 r3=>
  cases r2;obtain ⟨bm,N,nm,qn,bs,hd',sn,sub,ab,col,dd,k0,k1,k2,k3,k5,mN,hC,hN,hi,T⟩:=exc_objI I2.kIn hfi;obtain ⟨⟨t0,g0⟩,_⟩:=(show ObjOk X.prog X.w H1 s1.heap y (XI y C d) from I2.hok y _ hy);refine exc_base_init PySem.F.excBase_ValueError T hC g0 (λ h' t1 g1 kp=>?_) (by rw [<- r3.length];exact hl);have J:=I2.write (t':=s1.toks) (x:=y) (e:=y) (o:=XI y C d) (by rw [hy];exact True.intro) (.inl rfl) kp ⟨_,g1⟩ (XI.ok g1);rw [upd_id hy] at J;exact ⟨.non,H1,J,rfl,q⟩
noncomputable def tJ2 (t1 t2:TE):TE:=λ σ H Q=>t1 σ H λ x H1=>∃ a,x=.str a/\a.length<=sizeLine/\t2 σ H1 λ y H2=>∃ b,y=.str b/\a.length+b.length<=sizeLine/\Q (.str (a++b)) H2
theorem pe_j2 (h1:PE X e1 t1) (h2:PE X e2 t2):PE X (.JoinedStr [e1,e2] pos) (tJ2 t1 t2):=by
 intro pins s σ H Q I h;refine JoinedStr_many (joinParts_cons (thn (h1 pins s σ H _ I h) λ u s1 ⟨x,H1,I1,rx,a,ex,ha,q⟩=>?_));subst ex;obtain ⟨t,rfl⟩:=rx;refine ⟨by rw [Str.empty_append];exact ha,joinParts_cons (thn (h2 pins s1 σ H1 _ I1 q) λ u s2 ⟨y,H2,I2,ry,b,ey,hb,q2⟩=>?_)⟩;subst ey;obtain ⟨t',rfl⟩:=ry;have hl:((Str.empty++a)++b).length<=sizeLine:=by rw [Str.empty_append,strLen_append];exact hb
 refine ⟨hl,joinParts_nil ?_ hl⟩;rw [Str.empty_append];exact ⟨.str _,H2,I2.tok _,⟨_,rfl⟩,q2⟩
noncomputable def tFv (tv:TE):TE:=λ σ H Q=>tv σ H λ x H1=>∃ z,x=.str z/\z.length<=sizeLine/\Q (.str z) H1
theorem pe_fv (h:PE X value tv):PE X (.FormattedValue value (-1) none pos) (tFv tv):=by
 intro pins s σ H Q I hq;refine FormattedValue_plain (thn (h pins s σ H _ I hq) λ u s1 ⟨x,H1,I1,rx,z,ex,hz,q⟩=>?_);subst ex;obtain ⟨t,rfl⟩:=rx;exact formatField_str (λ t' tk=>⟨.str z,H1,I1.tok tk,⟨_,rfl⟩,q⟩) hz
noncomputable def sXf (K:W.Frag) (ta tv:TE) (f:Str):TS:=λ D σ H=>tv σ H λ y H1=>ta σ H1 λ x H2=>∃ a C,x=.ref a/\H2 a=some (XI a C none)/\ExI K C/\NoAttr K C f/\
 ∀ dx,H2 dx=none->D.nx σ (upd (upd H2 a (XI a C (some dx))) dx (.xd [(f,y)]))
theorem ps_xfld {o:Expr} (ha:PE X o ta) (hv:PE X value tv) (hs:swapsWith value (some (.Attribute o f pos')) pos.line X.env=pure false) (hex:X.ex=[]:=by rfl):PS X (.Assign [.Attribute o f pos'] value pos) (sXf X.K ta tv f):=by
 intro pins s σ H D I h;refine plainObj_wpAny_Assign_Attribute (thn (hv pins s σ H _ I h) λ u s1 ⟨y,H1,I1,ry,q⟩=>thn (ha pins s1 σ H1 _ I1 q) λ ov s2 ⟨x,H2,I2,rx,a,C,ex,ea,c,n,q2⟩=>?_) hs;subst ex;obtain rfl:ov=Value.ref a:=rx;obtain ⟨⟨t0,g0⟩,_⟩:=(show ObjOk X.prog X.w H2 s2.heap a (XI a C none) from I2.hok a _ ea);refine exc_set0 I2.kIn c n g0 rfl (by nofun) rfl λ h' tk' g1 ns kp=>?_;have nd:H2 s2.heap.objs.size=none:=I2.hok.fresh (eC _);have ne:s2.heap.objs.size≠a:=λ z=>by rw [z,ea] at nd;cases nd
 have J:=I2.write (t':=tk') (x:=a) (e:=a) (o:=XI a C (some s2.heap.objs.size)) (by rw [ea];exact True.intro) (.inl rfl) kp ⟨_,g1⟩ (XI.ok g1);have J2:=J.track (x:=s2.heap.objs.size) (o:=.xd [(f,y)]) (by rw [ag ne];exact nd) (I2.off hex (Heap.get?_none_of_le (eC _))) ⟨_,ns,λ g=>?_⟩
 ·exact ⟨σ,_,J2,q2 _ nd⟩
 ·show RelO (List.lookup g [(f,y)]) (if g=f then some u else none);rw [fb];by_cases h:g=f
  ·rw [if_pos h,show (g == f)=true from beq_iff_eq.mpr h];exact ry
  ·rw [if_neg h,show (g == f)=false from fM.mpr h];exact True.intro
noncomputable def tXf (K:W.Frag) (ta:TE) (f:Str):TE:=λ σ H Q=>ta σ H λ x H1=>∃ a C dx fs v,x=.ref a/\H1 a=some (XO a C (some dx))/\H1 dx=some (.xd fs)/\ExA K C/\PySem.W.hasDictIn K C=true/\PySem.W.findIn K (.ref C) f=some none/\fs.lookup f=some v/\Q v H1
theorem pe_xfld (he:PE X e ta) (hb:attributeBase e f X.env (eval e X.env)=eval e X.env):PE X (.Attribute e f pos) (tXf X.K ta f):=by
 intro pins s σ H Q I h;refine attr_of hb (thn (he pins s σ H _ I h) λ u s1 ⟨x,H1,I1,rx,a,C,dx,fs,v,ex,ea,ed,c,hd,nf,l,q⟩=>?_);subst ex;obtain rfl:u=Value.ref a:=rx;obtain ⟨⟨vs,sl,g0⟩,_⟩:=(show ObjOk X.prog X.w H1 s1.heap a (XO a C (some dx)) from I1.hok a _ ea);obtain ⟨mA,ns,rel⟩:=(show ObjOk X.prog X.w H1 s1.heap dx (.xd fs) from I1.hok dx _ ed);obtain ⟨od,ho,hl⟩:=lookIn_ns ns;obtain ⟨u,hu,ru⟩:=RelO.some_of (v:=v) (o:=mA f) (by rw [<- l];exact rel f);have J:PySem.W.InstAt s1.heap a ⟨.ref C,some dx,.fields vs,sl⟩ C (some od):=⟨g0,rfl,rfl,ho⟩;have hfo:PySem.W.findObj X.K C (some od) f=some (.value u):=PySem.W.findObj_own hd nf rfl (by rw [hl,hu]);obtain ⟨hh,gg,dd,tt,os⟩:=s1;unfold getAttr;refine eo (wpAny_mkText ?_);exact exc_by (s:=⟨hh,gg,dd,tt+1,os⟩) c I1.kIn J (handed_of ru) (λ A R q=>exc_call_val (s:=⟨hh,gg,dd,tt+1,os⟩) c I1.kIn J hfo q) ⟨v,H1,I1.tok _,ru,q⟩
noncomputable def XAtD (H:Hp) (x C:Addr) (fs:List (Str × V)):Prop:=∃ dx,H x=some (XO x C (some dx))/\H dx=some (.xd fs)
theorem XAtD.mono {H H':Hp} {x C:Addr} {fs:List (Str × V)} (h:XAtD H x C fs) (s:Same H H'):XAtD H' x C fs:=by
 obtain ⟨dx,a,b⟩:=h
 exact ⟨dx,s _ _ a,s _ _ b⟩
noncomputable def rIsXD (K:W.Frag) (c:Value):List V->Hp->VK->Prop:=λ vs H Q=>∃ x D y b fs,vs=[.ref x,y]/\(∀ u,RelV y u->u=c)/\XAtD H x D fs/\ExA K D/\PySem.W.kitOne K (.ref D) c=some b/\Q (.bl b) H
theorem bC {c:Value}:bS X (.builtin "isinstance") (rIsXD X.K c):=by
 intro pins s σ H xs us Q I r h;obtain ⟨x,D,y,b,fs,rfl,hc,⟨dx,hx,hd⟩,ea,e,q⟩:=h
 cases r with
 | cons r1 r2=>
  cases r2 with
  | cons r3 r4=>
   cases r4
   have:=hc _ r3
   subst this
   cases r1;obtain ⟨⟨vs,sl,g⟩,_⟩:=(show ObjOk X.prog X.w H s.heap x (XO x D (some dx)) from I.hok x _ hx);obtain ⟨mA,ns,rel⟩:=(show ObjOk X.prog X.w H s.heap dx (.xd fs) from I.hok dx _ hd);obtain ⟨od,ho,hl⟩:=lookIn_ns ns;exact fu (kitx_exc ea) I.kIn ⟨_,some od,g,rfl,rfl,ho⟩ e (λ z=>nomatch z) λ tk=>⟨.bl b,H,I.tok tk,rfl,q⟩
end
end L2
namespace L2
open PySem PySem.Spec PyProof.Rows
section
variable {P:Program} {w:World} {K:W.Frag} {mg:Str->Option Value} {base:Heap} {qual:Str} {C:Addr} {st:Stmt} {N ps:List Str} {k:Nat} {sp:Sp}
noncomputable def XiDe (K:W.Frag) (C:Addr) (qual:Str) (st:Stmt) (ps:List Str):Prop:=∃ f fd,FunG K "__init__" qual st f fd/\excFI K C bmV "ValueError.__new__"=some f/\PySem.W.typeIn K (.ref f)=some (.type "function")/\Binds K fd ps []
theorem XiDe.ok (F:XiDe K C qual st ps) (S:FnScope N ps (ah st)) (len:∀ vs H Q E,sp vs H Q E->vs.length=ps.length) (hbody:BodyOk P w K mg base qual st N k sp):XiB P w K mg base C (k+1) ps sp:=
 let ⟨f,fd,a,b,c,d⟩:=F
 ⟨f,fd,b,c,d,a.ok S len (hbody f)⟩
theorem XiDe.fi (F:XiDe K C qual st ps):∃ f,excFI K C bmV "ValueError.__new__"=some f:=by
 obtain ⟨f,_,_,b,_⟩:=F
 exact ⟨f,b⟩
end
end L2
namespace L2
open PySem PySem.Spec PyProof.Rows
section
variable {X:Cx}
theorem isPart_of {v:Value} {i:Option Int} (h:IsPart v i):∃ l:Option (Int × Tok),v=partValue l/\l.map (·.1)=i:=by
 cases h with
 | none=>exact ⟨none,rfl,rfl⟩
 | int i t=>exact ⟨some (i,t),rfl,rfl⟩
noncomputable def rSlS:V->Option Int->Option Int->Hp->VK->Prop:=λ x lo hi H Q=>∃ z,x=.str z/\z.length<=sizeLine/\Q (.str (Txt.slice z lo hi)) H
theorem sl_str:SlR X rSlS:=by
 intro pins s σ H x v vl vu lo hi sl Q I rx hs pl pu h;obtain ⟨z,rfl,hz,q⟩:=h;obtain ⟨t,rfl⟩:=rx;obtain ⟨l,rfl,rfl⟩:=isPart_of pl;obtain ⟨u,rfl,rfl⟩:=isPart_of pu;obtain ⟨o,ho,hc,hd⟩:=hs
 exact ⟨"str",_,F.slot_str_getitem.lookup,typeIs_str _ _ _,wpAny_getItem_str_slice (l:=l) (u:=u) (st:=none) ⟨o,ho,hc,hd⟩ rfl
  (post_val_or_str ⟨eQ (Txt.slice_le z _ _) hz,λ t' k=>⟨.str (Txt.slice z (l.map (·.1)) (u.map (·.1))),H,I.tok k,⟨t',rfl⟩,q⟩⟩)⟩
theorem pe_gi {x:Str} {i:Int} {pos:Pos} (h:∃ tk,X.mg x=some (.int i tk)) (hg:Gl X x:=by rfl) (hd:(x == ("__debug__":Str))=false:=by decide):PE X (.Name x pos) (tC (.int i)):=by
 obtain ⟨tk,h⟩:=h;exact aY hg h ⟨tk,rfl⟩ hd
inductive IrEqN (K:W.Frag) (x:V) (y:V) (H:Hp) (Q:VK):Prop
 | mk (p:_) (q:_) (xs:_) (h1:x=.ref p) (h2:y=.ref q) (h3:SqL K H p xs) (h4:SqL K H q []) (h5:Q (.bl xs.isEmpty) H):IrEqN K x y H Q
inductive IrNeN (K:W.Frag) (x:V) (y:V) (H:Hp) (Q:VK):Prop
 | mk (p:_) (q:_) (xs:_) (h1:x=.ref p) (h2:y=.ref q) (h3:SqL K H p xs) (h4:SqL K H q []) (h5:Q (.bl (!xs.isEmpty)) H):IrNeN K x y H Q
theorem pe_fldK {K:W.Frag} {o:Expr} {f:Str} {pos:Pos} {ta:TE} (hK:X.K=K) (h:PE X o ta) (hb:attributeBase o f X.env (eval o X.env)=eval o X.env):PE X (.Attribute o f pos) (tFld K ta f):=by
 subst hK;exact aP h hb
end
end L2
namespace L2
open PySem PySem.Spec PyProof.Rows
section
variable {κ:Type} [DecidableEq κ]
noncomputable def aZ (kvs:List (κ × V)) (k:κ):Option V:=(kvs.find? λ kv=>decide (kv.1=k)).map (·.2)
noncomputable def aJ (kvs:List (κ × V)) (k:κ) (v:V):List (κ × V):=
 if (kvs.any λ kv=>decide (kv.1=k))=true then kvs.map (λ kv=>if kv.1=k then (kv.1,v) else kv) else kvs++[(k,v)]
noncomputable def aT (kvs:List (κ × V)) (k:κ):List (κ × V):=kvs.filter λ kv=>decide (kv.1≠k)
theorem aX {p:κ × V} {r:List (κ × V)} {k:κ} (e:p.1=k):aZ (p::r) k=some p.2:=by simp [aZ,List.find?_cons,e]
theorem aV {p:κ × V} {r:List (κ × V)} {k:κ} (e:¬ p.1=k):aZ (p::r) k=aZ r k:=by simp [aZ,List.find?_cons,e]
theorem bL (k:κ):∀ kvs:List (κ × V),(kvs.any λ kv=>decide (kv.1=k))=(aZ kvs k).isSome
 | []=>rfl
 | p::r=>by
  rw [List.any_cons];by_cases e:p.1=k
  ·simp only [aX e,eK e,Bool.true_or,Option.isSome_some]
  ·rw [aV e,eD e,Bool.false_or];exact bL k r
theorem valV_map (k j:κ) (y:V):∀ kvs:List (κ × V),aZ (kvs.map λ kv=>if kv.1=k then (kv.1,y) else kv) j=(aZ kvs j).map λ x=>if j=k then y else x
 | []=>rfl
 | p::r=>by
  have ih:=valV_map k j y r;rw [fz];by_cases h:p.1=k
  ·rw [if_pos h];by_cases e:p.1=j
   ·rw [aX (p:=(p.1,y)) e,aX e,fJ,if_pos (e.symm.trans h)]
   ·rw [aV (p:=(p.1,y)) e,aV e,ih]
  ·rw [if_neg h];by_cases e:p.1=j
   ·rw [aX (p:=p) e,aX e,fJ,if_neg (λ z=>h (e.trans z))]
   ·rw [aV (p:=p) e,aV e,ih]
theorem valV_snoc (k j:κ) (y:V):∀ kvs:List (κ × V),aZ kvs k=none->aZ (kvs++[(k,y)]) j=if j=k then some y else aZ kvs j
 | [],_=>by
  by_cases e:k=j
  ·rw [if_pos e.symm];exact aX (p:=(k,y)) e
  ·rw [if_neg (λ z=>e z.symm)];exact aV (p:=(k,y)) e
 | p::r,hn=>by
  rw [List.cons_append];have hk:¬ p.1=k:=λ z=>by rw [aX z] at hn;cases hn
  rw [aV hk] at hn;have ih:=valV_snoc k j y r hn;by_cases e:p.1=j
  ·rw [aX e,aX e,if_neg (λ z=>hk (e.trans z))]
  ·rw [aV e,aV e,ih]
theorem valV_put (kvs:List (κ × V)) (k j:κ) (y:V):aZ (aJ kvs k y) j=if j=k then some y else aZ kvs j:=by
 unfold aJ;by_cases a:(kvs.any λ kv=>decide (kv.1=k))=true
 ·rw [if_pos a,valV_map];rw [bL] at a;by_cases e:j=k
  ·obtain ⟨x,hx⟩:=Option.isSome_iff_exists.mp a;rw [if_pos e,e,hx,fJ,if_pos rfl]
  ·rw [if_neg e]
   cases aZ kvs j with
   | none=>rfl
   | some x=>rw [fJ,if_neg e]
 ·rw [if_neg a];refine valV_snoc k j y kvs ?_;rw [bL] at a
  cases q:aZ kvs k with
  | none=>rfl
  | some x=>rw [q] at a;exact (a rfl).elim
theorem length_putK (kvs:List (κ × V)) (k:κ) (v:V):(aJ kvs k v).length<=kvs.length+1:=by
 unfold aJ
 split
 ·rw [eB];omega
 ·rw [fm,eV,List.length_nil];omega
theorem putK_new {kvs:List (κ × V)} {k:κ} (v:V) (h:aZ kvs k=none):aJ kvs k v=kvs++[(k,v)]:=by
 unfold aJ;rw [bL,h];exact if_neg (by decide)
theorem RelO.isSome_eq {o:Option V} {u:Option Value} (r:RelO o u):o.isSome=u.isSome:=by
 cases o with
 | none=>cases u with
  | none=>rfl
  | some _=>exact (show False from r).elim
 | some _=>cases u with
  | none=>exact (show False from r).elim
  | some _=>rfl
theorem KV.val {kvs:List (κ × V)} {vs:List (κ × Value)} (r:KV kvs vs) (k:κ):RelO (aZ kvs k) (valueAt vs k):=by
 unfold KV at r
 induction r with
 | nil=>exact True.intro
 | @cons p q ps qs h t ih=>
  obtain ⟨h1,h2⟩:=h;by_cases e:p.1=k
  ·have e':q.1=k:=h1.symm.trans e;have b:valueAt (q::qs) k=some q.2:=by simp [valueAt,List.find?_cons,e']
   rw [aX e,b];exact h2
  ·have e':¬ q.1=k:=λ z=>e (h1.trans z);have b:valueAt (q::qs) k=valueAt qs k:=by simp [valueAt,List.find?_cons,e']
   rw [aV e,b];exact ih
theorem KV.any {kvs:List (κ × V)} {vs:List (κ × Value)} (r:KV kvs vs) (k:κ):(kvs.any λ kv=>decide (kv.1=k))=vs.any λ kv=>decide (kv.1=k):=by
 unfold KV at r
 induction r with
 | nil=>rfl
 | cons h t ih=>rw [List.any_cons,List.any_cons,ih,h.1]
theorem KV.repl {kvs:List (κ × V)} {vs:List (κ × Value)} (r:KV kvs vs) (k:κ) {y:V} {u:Value} (ry:RelV y u) :
  KV (kvs.map λ kv=>if kv.1=k then (kv.1,y) else kv) (vs.map λ kv=>if kv.1=k then (kv.1,u) else kv):=by
 unfold KV at r ⊢
 induction r with
 | nil=>exact .nil
 | @cons p q ps qs h t ih=>
  rw [fz,fz];refine .cons ?_ ih;obtain ⟨h1,h2⟩:=h;by_cases e:p.1=k
  ·rw [if_pos e,if_pos (h1.symm.trans e)];exact ⟨h1,ry⟩
  ·rw [if_neg e,if_neg (λ z=>e (h1.trans z))];exact ⟨h1,h2⟩
theorem KV.put {kvs:List (κ × V)} {vs:List (κ × Value)} (r:KV kvs vs) (k:κ) {y:V} {u:Value} (ry:RelV y u):KV (aJ kvs k y) (stored vs k u):=by
 unfold aJ stored;rw [r.any k];by_cases e:(vs.any λ kv=>decide (kv.1=k))=true
 ·rw [if_pos e,if_pos e];exact r.repl k ry
 ·rw [if_neg e,if_neg e];exact Paired.snoc r ⟨rfl,ry⟩
theorem KV.drop {kvs:List (κ × V)} {vs:List (κ × Value)} (r:KV kvs vs) (k:κ):KV (aT kvs k) (without vs k):=by
 unfold KV at r ⊢;unfold aT without
 induction r with
 | nil=>exact .nil
 | @cons p q ps qs h t ih=>
  obtain ⟨h1,h2⟩:=h;rw [List.filter_cons,List.filter_cons];by_cases e:p.1=k
  ·have a:¬ decide (p.1≠k)=true:=by simp [e]
   have b:¬ decide (q.1≠k)=true:=by simp [h1.symm.trans e]
   rw [if_neg a,if_neg b];exact ih
  ·have e':¬ q.1=k:=λ z=>e (h1.trans z);have a:decide (p.1≠k)=true:=by simp [e]
   have b:decide (q.1≠k)=true:=by simp [e']
   rw [if_pos a,if_pos b];exact .cons ⟨h1,h2⟩ ih
theorem KV.length {kvs:List (κ × V)} {vs:List (κ × Value)} (r:KV kvs vs):kvs.length=vs.length:=Paired.length r
theorem dropK_le (kvs:List (κ × V)) (k:κ):(aT kvs k).length<=kvs.length:=List.length_filter_le _ _
end
theorem kV_is {P:Program} {w:World} {k:Key} {u:Value} (r:RelV (kV k) u):(aR P w).is k u=true:=by
 cases k with
 | inl i=>obtain ⟨t,e⟩:=(show ∃ t,u=Value.int i t from r);subst e;exact mixKind_int P w i t
 | inr x=>obtain ⟨t,e⟩:=(show ∃ t,u=Value.str x t from r);subst e;exact mixKind_str P w x t
theorem kV_inj {a b:Key} (e:kV a=kV b):a=b:=by
 cases a with
 | inl i=>cases b with
  | inl j=>have e':V.int i=V.int j:=e;injection e' with e';rw [e']
  | inr y=>exact nomatch (show V.int i=V.str y from e)
 | inr x=>cases b with
  | inl j=>exact nomatch (show V.str x=V.int j from e)
  | inr y=>have e':V.str x=V.str y:=e;injection e' with e';rw [e']
theorem items_are {P:Program} {w:World}:∀ {ks:List Key} {us:List Value},Vals (ks.map kV) us->ItemsAre (aR P w) ks us
 | [],_,r=>by rw [List.map_nil] at r;cases r;exact .nil
 | k::ks,_,r=>by
  rw [fz] at r
  cases r with
  | cons h t=>exact .cons (kV_is h) (items_are t)
noncomputable abbrev KT (H:Hp):List (List Key × V)->List (List Key × Addr × Value)->Prop:=Paired λ p q=>p.1=q.1/\H q.2.1=some (.tup (p.1.map kV))/\RelV p.2 q.2.2
theorem KT.val {H:Hp} {kvs:List (List Key × V)} {xs:List (List Key × Addr × Value)} (r:KT H kvs xs) (k:List Key):RelO (aZ kvs k) ((atKey xs k).map (·.2)):=by
 induction r with
 | nil=>exact True.intro
 | @cons p q ps qs h t ih=>
  obtain ⟨h1,_,h2⟩:=h;by_cases e:p.1=k
  ·have e':q.1=k:=h1.symm.trans e;have b:atKey (q::qs) k=some q.2:=by simp [atKey,List.find?_cons,e']
   rw [aX e,b];exact h2
  ·have e':¬ q.1=k:=λ z=>e (h1.trans z);have b:atKey (q::qs) k=atKey qs k:=by simp [atKey,List.find?_cons,e']
   rw [aV e,b];exact ih
theorem KT.repl {H:Hp} {kvs:List (List Key × V)} {xs:List (List Key × Addr × Value)} (r:KT H kvs xs) (k:List Key) {y:V} {u:Value} (ry:RelV y u) :
  KT H (kvs.map λ kv=>if kv.1=k then (kv.1,y) else kv) (xs.map (putAt k u)):=by
 induction r with
 | nil=>exact .nil
 | @cons p q ps qs h t ih=>
  rw [fz,fz];refine .cons ?_ ih;obtain ⟨h1,h2,h3⟩:=h;unfold putAt;by_cases e:p.1=k
  ·rw [if_pos e,if_pos (h1.symm.trans e)];exact ⟨h1,h2,ry⟩
  ·rw [if_neg e,if_neg (λ z=>e (h1.trans z))];exact ⟨h1,h2,h3⟩
theorem KT.put {H:Hp} {kvs:List (List Key × V)} {xs:List (List Key × Addr × Value)} (r:KT H kvs xs) (k:List Key) {b:Addr} {y:V} {u:Value} (hb:H b=some (.tup (k.map kV))) (ry:RelV y u) :
  KT H (aJ kvs k y) (storedH xs k b u):=by
 have e:(kvs.any λ kv=>decide (kv.1=k))=(atKey xs k).isSome:=by
  rw [bL,(r.val k).isSome_eq,Option.isSome_map]
 unfold aJ storedH;rw [e];by_cases q:(atKey xs k).isSome=true
 ·rw [if_pos q,if_pos q];exact r.repl k ry
 ·rw [if_neg q,if_neg q];exact Paired.snoc r ⟨rfl,hb,ry⟩
theorem KT.keeps {H H':Hp} {kvs:List (List Key × V)} {xs:List (List Key × Addr × Value)} (r:KT H kvs xs) (ht:∀ b ys,H b=some (.tup ys)->H' b=some (.tup ys)):KT H' kvs xs:=
 Paired.mapP r λ _ _ z=>⟨z.1,ht _ _ z.2.1,z.2.2⟩
section
variable {P:Program} {w:World} {H:Hp} {h:Heap} {a:Addr}
theorem rd_of {u:HO} (ok:HOk P w H h) (e:Rd H a u):ObjOk P w H h a u:=e.ok ok
theorem cL {kvs:List (Key × V)} (ok:HOk P w H h) (e:Rd H a (.dK kvs)):kvs.length<=sizeLine/\(a == sysModules)=false/\∃ vs,KV kvs vs/\h.DictOf (aR P w) a vs:=
 show ObjOk P w H h a (.dK kvs) from rd_of ok e
theorem dk_of {kvs:List (Key × V)} (ok:HOk P w H h) (e:H a=some (.dK kvs)):kvs.length<=sizeLine/\(a == sysModules)=false/\∃ vs,KV kvs vs/\h.DictOf (aR P w) a vs:=cL ok (.inl e)
theorem key_of {ks:List Key} (ok:HOk P w H h) (e:H a=some (.tup (ks.map kV))):(tupleKind (aR P w)).is h ks a:=by
 obtain ⟨_,its,r,o,h1,h2,n,h3⟩:=(show ObjOk P w H h a (.tup (ks.map kV)) from ok a _ e);exact ⟨o,its.toArray,n,h1,h2,h3,by simpa using items_are r⟩
theorem dt_rd {kvs:List (List Key × V)} (ok:HOk P w H h) (e:Rd H a (.dT kvs)):kvs.length<=sizeLine/\(a == sysModules)=false/\
  ∃ xs,KT H kvs xs/\h.DictOfH (tupleKind (aR P w)) a xs:=by
 obtain ⟨z,y,xs,r,o,es,ep,h1,h2,h3,h4,h5⟩:=(show ObjOk P w H h a (.dT kvs) from rd_of ok e);refine ⟨z,y,xs,r,o,es,ep,h1,h2,h3,h4,λ x hx=>?_,h5⟩
 have all:∀ {l:List (List Key × V)} {m:List (List Key × Addr × Value)},KT H l m->∀ x∈m,(tupleKind (aR P w)).is h x.1 x.2.1:=by
  intro l m q
  induction q with
  | nil=>intro x hx;exact nomatch hx
  | @cons p q ps qs hq t ih=>
   intro x hx;rcases eT.mp hx with e | hx
   ·subst e;exact key_of ok (by rw [<- hq.1];exact hq.2.1)
   ·exact ih x hx
 exact all r x hx
theorem dt_of {kvs:List (List Key × V)} (ok:HOk P w H h) (e:H a=some (.dT kvs)):kvs.length<=sizeLine/\(a == sysModules)=false/\
  ∃ xs,KT H kvs xs/\h.DictOfH (tupleKind (aR P w)) a xs:=dt_rd ok (.inl e)
end
noncomputable def DGet (H:Hp) (a:Addr) (y:V) (r:Option V):Prop:=
 (∃ kvs k,Rd H a (.dK kvs)/\y=kV k/\r=aZ kvs k)∨∃ kvs k b,Rd H a (.dT kvs)/\y=.ref b/\H b=some (.tup (k.map kV))/\r=aZ kvs k
noncomputable def DPut (H:Hp) (a:Addr) (y v:V) (H':Hp):Prop:=
 (∃ kvs k,H a=some (.dK kvs)/\y=kV k/\kvs.length<sizeLine/\H'=upd H a (.dK (aJ kvs k v)))∨
 ∃ kvs k b,H a=some (.dT kvs)/\y=.ref b/\H b=some (.tup (k.map kV))/\kvs.length<sizeLine/\H'=upd H a (.dT (aJ kvs k v))
theorem DGet.k {H:Hp} {a:Addr} {kvs:List (Key × V)} {k:Key} (e:H a=some (.dK kvs)):DGet H a (kV k) (aZ kvs k):=.inl ⟨kvs,k,.inl e,rfl,rfl⟩
theorem DPut.k {H:Hp} {a:Addr} {kvs:List (Key × V)} {k:Key} {v:V} (e:H a=some (.dK kvs)) (hl:kvs.length<sizeLine):DPut H a (kV k) v (upd H a (.dK (aJ kvs k v))):=.inl ⟨kvs,k,e,rfl,hl,rfl⟩
section
variable {X:Cx} {pins:List (Addr × Obj)} {σ:St} {H:Hp} {s:Shared} {a:Addr} {y v:V} {u r:Value} {o:Option V} {A:Around} {E:Value->Shared->Prop}
theorem Inv.big (I:Inv X pins σ H s):sysModules<s.heap.objs.size:=by
 have h:mainGlobals<s.heap.objs.size:=(I.mod.glob.keeps I.bk).lt;exact Nat.lt_trans (by decide) h
theorem d_getItem {Q:Value->Shared->Prop} (hu:A.units+1<cLine) (I:Inv X pins σ H s) (g:DGet H a y (some v)) (ry:RelV y u) (h:∀ w' s',Inv X pins σ H s'->RelV v w'->Q w' s') :
  wpAny (model X.prog X.w) A (getItem (.ref a) u) Q E s:=by
 rcases g with ⟨kvs,k,e,ey,l⟩ | ⟨kvs,k,b,e,ey,eb,l⟩
 ·subst ey;obtain ⟨z,hd,vs,rel,dd⟩:=cL I.hok e;obtain ⟨w',hw,rw'⟩:=RelO.some_of (v:=v) (o:=valueAt vs k) (by rw [l];exact rel.val k);exact wpAny_getItem_of (kV_is ry) dd.mapOf hw (h w' _ (I.tok _) rw')
 ·subst ey
  cases (show u=Value.ref b from ry);obtain ⟨z,hd,xs,rel,dd⟩:=dt_rd I.hok e;obtain ⟨w',hw,rw'⟩:=RelO.some_of (v:=v) (o:=(atKey xs k).map (·.2)) (by rw [l];exact rel.val k);obtain ⟨p,hp,hp2⟩:=fj.mp hw;refine wpAny_getItem_heap (tupleKind_room_in1 hu) (key_of I.hok eb) dd hp ?_;rw [hp2];exact h w' _ (I.tok _) rw'
theorem d_in {Q:Value->Shared->Prop} (hu:A.units+1<cLine) (I:Inv X pins σ H s) (g:DGet H a y o) (ry:RelV y u) (h:∀ s',Inv X pins σ H s'->Q (.bool o.isSome) s') :
  wpAny (model X.prog X.w) A (compareOp .In u (.ref a)) Q E s:=by
 rcases g with ⟨kvs,k,e,ey,l⟩ | ⟨kvs,k,b,e,ey,eb,l⟩
 ·subst ey;obtain ⟨z,hd,vs,rel,dd⟩:=cL I.hok e;refine wpAny_in_of (kV_is ry) hd dd.mapOf ?_;rw [<- (rel.val k).isSome_eq,<- l];exact h _ (I.tok _)
 ·subst ey
  cases (show u=Value.ref b from ry);obtain ⟨z,hd,xs,rel,dd⟩:=dt_rd I.hok e;refine wpAny_in_heap (tupleKind_room_in1 hu) (key_of I.hok eb) hd dd ?_;have q:=(rel.val k).isSome_eq;rw [Option.isSome_map] at q;rw [<- q,<- l];exact h _ (I.tok _)
theorem d_notIn {Q:Value->Shared->Prop} (hu:A.units+1<cLine) (I:Inv X pins σ H s) (g:DGet H a y o) (ry:RelV y u) (h:∀ s',Inv X pins σ H s'->Q (.bool (!o.isSome)) s') :
  wpAny (model X.prog X.w) A (compareOp .NotIn u (.ref a)) Q E s:=by
 rcases g with ⟨kvs,k,e,ey,l⟩ | ⟨kvs,k,b,e,ey,eb,l⟩
 ·subst ey;obtain ⟨z,hd,vs,rel,dd⟩:=cL I.hok e;refine wpAny_notIn_of (kV_is ry) hd dd.mapOf ?_;rw [<- (rel.val k).isSome_eq,<- l];exact h _ (I.tok _)
 ·subst ey
  cases (show u=Value.ref b from ry);obtain ⟨z,hd,xs,rel,dd⟩:=dt_rd I.hok e;refine wpAny_notIn_heap (tupleKind_room_in1 hu) (key_of I.hok eb) hd dd ?_;have q:=(rel.val k).isSome_eq;rw [Option.isSome_map] at q;rw [<- q,<- l];exact h _ (I.tok _)
theorem d_write {h':Heap} {t':Nat} {ob:HO} (I:Inv X pins σ H s) (mu:Mut (H a)) (hs:Heap.SameBut a s.heap h') (he:∃ q,h'.get? a=some q) (new:ObjOk X.prog X.w (upd H a ob) h' a ob) :
  Inv X pins σ (upd H a ob) { s with heap:=h',toks:=t' }:=
 I.write (x:=a) (e:=a) mu (.inl rfl) (λ b q hb z=>(hs.2 b hb).trans z) he new
theorem dk_new {P:Program} {w:World} {H':Hp} {h':Heap} {kvs:List (Key × V)} {vs:List (Key × Value)} (z:kvs.length<=sizeLine) (hd:(a == sysModules)=false) (rel:KV kvs vs) (dd:h'.DictOf (aR P w) a vs) :
  ObjOk P w H' h' a (.dK kvs):=⟨z,hd,vs,rel,dd⟩
theorem d_setItem {H':Hp} {Q:Unit->Shared->Prop} (hu:A.units+1<cLine) (I:Inv X pins σ H s) (g:DPut H a y v H') (ry:RelV y u) (rv:RelV v r) (h:∀ s',Inv X pins σ H' s'->Q () s') :
  wpAny (model X.prog X.w) A (setItem (.ref a) u r) Q E s:=by
 rcases g with ⟨kvs,k,e,ey,l,eH⟩ | ⟨kvs,k,b,e,ey,eb,l,eH⟩
 ·subst ey eH;obtain ⟨z,hd,vs,rel,dd⟩:=dk_of I.hok e;have hz:vs.length<=sizeLine:=by rw [<- rel.length];exact z
  have hl:(aJ kvs k v).length<=sizeLine:=by have:=length_putK kvs k v;omega
  refine wpAny_setItem_pairs (hsz:=hz) (kV_is ry) dd λ h' dd' hs=>h _ ?_;have he:∃ q,h'.get? a=some q:=let ⟨q,_,_,hq,_⟩:=dd';⟨q,hq⟩
  exact d_write I (by rw [e];exact True.intro) hs he (dk_new hl hd (rel.put k rv) dd')
 ·subst ey eH
  cases (show u=Value.ref b from ry);obtain ⟨z,hd,xs,rel,dd⟩:=dt_of I.hok e;have hz:xs.length<=sizeLine:=by rw [<- Paired.length rel];exact z
  have hl:(aJ kvs k v).length<=sizeLine:=by have:=length_putK kvs k v;omega
  refine wpAny_setItem_heap (hsz:=hz) (tupleKind_room_in1 hu) (key_of I.hok eb) dd λ h' dd' hs=>h _ ?_;obtain ⟨q,es,ep,hq,h2,h3,h4,_,h5⟩:=dd';refine d_write I (by rw [e];exact True.intro) hs ⟨q,hq⟩ ⟨hl,hd,_,(rel.put k eb rv).keeps λ c ys ec=>?_,q,es,ep,hq,h2,h3,h4,h5⟩;rw [ag (cy ec e (λ z=>nomatch z))];exact ec
end
section
variable {X:Cx} {pins:List (Addr × Obj)} {σ:St} {H:Hp} {s:Shared} {a:Addr} {kvs:List (Key × V)} {k:Key} {u:Value} {A:Around} {E:Value->Shared->Prop}
theorem d_pop {v:V} {more:List Value} {Q:Value->Shared->Prop} (I:Inv X pins σ H s) (e:H a=some (.dK kvs)) (ry:RelV (kV k) u) (l:aZ kvs k=some v) (hm:more=[]∨∃ x,more=[x])
  (h:∀ w' s',Inv X pins σ (upd H a (.dK (aT kvs k))) s'->RelV v w'->Q w' s'):wpAny (model X.prog X.w) A (call (.builtin "dict.pop") (.ref a::u::more)) Q E s:=by
 obtain ⟨z,hd,vs,rel,dd⟩:=dk_of I.hok e;obtain ⟨w',hw,rw'⟩:=RelO.some_of (v:=v) (o:=valueAt vs k) (by rw [<- l];exact rel.val k)
 have hp:(keyPart u).isSome=true:=by
  cases k with
  | inl i=>obtain ⟨t,q⟩:=(show ∃ t,u=Value.int i t from ry);subst q;rfl
  | inr x=>obtain ⟨t,q⟩:=(show ∃ t,u=Value.str x t from ry);subst q;rfl
 have ha:argsOk "dict.pop" ⟨.ref a::u::more,[]⟩:=by
  rcases hm with q | ⟨x,q⟩
  ·subst q;exact PySem.F.args_dict_pop_2 _ _
  ·subst q;exact PySem.F.args_dict_pop_3 _ _ _
 refine call_meetsIn PySem.F.slot_dict_pop dd.typeIs PySem.F.entry_dict_pop ha (meets_dict_pop_there (aR X.prog X.w) a (kV_is ry) more hm hp)
  ⟨vs,w',dd,by rw [<- rel.length];exact z,hw,λ h' dd' hs=>h w' _ ?_ rw'⟩
 have he:∃ q,h'.get? a=some q:=let ⟨q,_,_,hq,_⟩:=dd';⟨q,hq⟩
 exact d_write I (by rw [e];exact True.intro) hs he (dk_new (eQ (dropK_le kvs k) z) hd (rel.drop k) dd')
theorem d_popD {r:Value} {Q:Value->Shared->Prop} (I:Inv X pins σ H s) (e:H a=some (.dK kvs)) (ry:RelV (kV k) u) (l:aZ kvs k=none) (h:∀ s',Inv X pins σ H s'->Q r s') :
  wpAny (model X.prog X.w) A (call (.builtin "dict.pop") [.ref a,u,r]) Q E s:=by
 obtain ⟨z,hd,vs,rel,dd⟩:=dk_of I.hok e;have hn:valueAt vs k=none:=RelO.none_of (by rw [<- l];exact rel.val k)
 have hp:(keyPart u).isSome=true:=by
  cases k with
  | inl i=>obtain ⟨t,q⟩:=(show ∃ t,u=Value.int i t from ry);subst q;rfl
  | inr x=>obtain ⟨t,q⟩:=(show ∃ t,u=Value.str x t from ry);subst q;rfl
 exact call_meetsIn PySem.F.slot_dict_pop dd.typeIs PySem.F.entry_dict_pop (PySem.F.args_dict_pop_3 _ _ _) (meets_dict_pop_default (aR X.prog X.w) a (kV_is ry) hd hp r) ⟨vs,dd,hn,h _ (I.tok _)⟩
theorem d_len {Q:Value->Shared->Prop} (I:Inv X pins σ H s) (e:Rd H a (.dK kvs)) (h:∀ t s',Inv X pins σ H s'->Q (.int kvs.length t) s'):wpAny (model X.prog X.w) A (call (.builtin "len") [.ref a]) Q E s:=by
 obtain ⟨z,hd,vs,rel,dd⟩:=cL I.hok e;refine call_len_dict hd dd (by rw [<- rel.length];rw [sizeLine_eq] at z;omega) ?_;rw [<- rel.length];exact h _ _ (I.tok _)
end
noncomputable def NoSl (i:Expr):Prop:=∀ ov iv,subscripted i false ov iv=operate [ov,iv] (getItem ov iv)
theorem subD_of {prog:Program} {w:World} {A:Around} {E:Value->Shared->Prop} {s:Shared} {env:Env} {value slice:Expr} {pos:Pos} {T id:String} {Q:Value->Shared->Prop}
  (hl:typeLookup (.type T) "__getitem__"=pure (some (.builtin id))) (hs:NoSl slice)
  (h:wpAny (model prog w) A (eval value env) (λ o s₁=>wpAny (model prog w) A (eval slice env) (λ i s₂=>s₂.TypeIs o T/\wpAny (model prog w) A (getItem o i) Q E s₂) E s₁) E s) :
  wpAny (model prog w) A (eval (.Subscript value slice pos) env) Q E s:=by
 refine Subscript_ (fh h (λ o s₁ h₁=>fh h₁ (λ i s₂ h₂=>?_) λ _ _ x=>x) λ _ _ x=>x);obtain ⟨hT,h₂⟩:=h₂;unfold subscriptTail;refine eo ?_;rw [getitemInPython_of_ne hT.not_modules];refine eo (wpAny_specialOf hT hl ?_)
 have fin:wpAny (model prog w) A (subscripted slice false o i) (λ r s₃=>wpAny (model prog w) A (letTemporaryGo value o r >>= λ _=>pure r) Q E s₃) E s₂:=by
  rw [hs o i];exact wpAny_operating (fh h₂ (λ r s₃ h₃=>eo (wpAny_letTemporaryGo (eJ h₃))) λ _ _ x=>x)
 first
  | exact eJ (eo fin)
  | exact eo (eJ (eo fin))
  | exact eo fin
theorem dict_typeIs {X:Cx} {pins:List (Addr × Obj)} {σ:St} {H:Hp} {s:Shared} {a:Addr} {y:V} {o:Option V} (I:Inv X pins σ H s) (g:DGet H a y o):s.TypeIs (.ref a) "dict":=by
 rcases g with ⟨kvs,k,e,_,_⟩ | ⟨kvs,k,b,e,_,_,_⟩
 ·obtain ⟨_,_,vs,_,dd⟩:=cL I.hok e;exact dd.typeIs
 ·obtain ⟨_,_,xs,_,dd⟩:=dt_rd I.hok e;exact dd.typeIs
inductive ItDGet (Q:VK) (x:V) (y:V) (H2:Hp):Prop
 | mk (a:_) (v:_) (h1:x=.ref a) (h2:DGet H2 a y (some v)) (h3:Q v H2):ItDGet Q x y H2
noncomputable def tDGet (td ty:TE):TE:=λ σ H Q=>td σ H λ x H1=>ty σ H1 λ y H2=>ItDGet Q x y H2
noncomputable def tDIn (ty td:TE):TE:=λ σ H Q=>ty σ H λ y H1=>td σ H1 λ x H2=>∃ a o,x=.ref a/\DGet H2 a y o/\Q (.bl o.isSome) H2
noncomputable def tDNotIn (ty td:TE):TE:=λ σ H Q=>ty σ H λ y H1=>td σ H1 λ x H2=>∃ a o,x=.ref a/\DGet H2 a y o/\Q (.bl (!o.isSome)) H2
noncomputable def sDPut (td ty tv:TE):TS:=λ D σ H=>tv σ H λ v H1=>td σ H1 λ x H2=>ty σ H2 λ y H3=>∃ a H4,x=.ref a/\DPut H3 a y v H4/\D.nx σ H4
section
variable {X:Cx} {o i e value:Expr} {pos pos' tpos:Pos} {td ty tv:TE}
theorem db (hu:X.A.units+1<cLine) (ho:PE X o td) (hi:PE X i ty) (hs:NoSl i):PE X (.Subscript o i pos) (tDGet td ty):=by
 intro pins s σ H Q I h;refine subD_of PySem.F.slot_dict_getitem.lookup hs (thn (ho pins s σ H _ I h) λ u s1 ⟨x,H1,I1,rx,q1⟩=>thn (hi pins s1 σ H1 _ I1 q1) λ iv s2 ⟨y,H2,I2,ry,a,v,ex,g,q2⟩=>?_);subst ex;obtain rfl:u=Value.ref a:=rx;exact ⟨dict_typeIs I2 g,d_getItem hu I2 g ry λ w' s3 I3 rw'=>⟨v,H2,I3,rw',q2⟩⟩
theorem pc_din (hu:X.A.units+1<cLine) (hi:PE X i ty) (ho:PE X o td):PC X .In i o (tDIn ty td):=by
 intro pins s σ H Q I h;refine thn (hi pins s σ H _ I h) λ iv s1 ⟨y,H1,I1,ry,q1⟩=>thn (ho pins s1 σ H1 _ I1 q1) λ u s2 ⟨x,H2,I2,rx,a,ov,ex,g,q2⟩=>?_;subst ex;obtain rfl:u=Value.ref a:=rx;exact d_in hu I2 g ry λ s3 I3=>⟨.bl ov.isSome,H2,I3,rfl,q2⟩
theorem bj (hu:X.A.units+1<cLine) (hi:PE X i ty) (ho:PE X o td):PC X .NotIn i o (tDNotIn ty td):=by
 intro pins s σ H Q I h;refine thn (hi pins s σ H _ I h) λ iv s1 ⟨y,H1,I1,ry,q1⟩=>thn (ho pins s1 σ H1 _ I1 q1) λ u s2 ⟨x,H2,I2,rx,a,ov,ex,g,q2⟩=>?_;subst ex;obtain rfl:u=Value.ref a:=rx;exact d_notIn hu I2 g ry λ s3 I3=>⟨.bl (!ov.isSome),H2,I3,rfl,q2⟩
theorem bX (hu:X.A.units+1<cLine) (ho:PE X o td) (hi:PE X i ty) (hv:PE X value tv) (hs:swapsWith value (some (.Subscript o i pos')) pos.line X.env=pure false) :
  PS X (.Assign [.Subscript o i pos'] value pos) (sDPut td ty tv):=by
 intro pins s σ H D I h;refine wpAny_Assign_Subscript (thn (hv pins s σ H _ I h) λ r s1 ⟨v,H1,I1,rv,q1⟩=>thn (ho pins s1 σ H1 _ I1 q1) λ u s2 ⟨x,H2,I2,rx,q2⟩=>thn (hi pins s2 σ H2 _ I2 q2) λ iv s3 ⟨y,H3,I3,ry,a,H4,ex,g,q3⟩=>?_) hs;subst ex;obtain rfl:u=Value.ref a:=rx;exact d_setItem hu I3 g ry rv λ s4 I4=>⟨σ,H4,I4,q3⟩
end
theorem dk_empty {P:Program} {w:World} {H:Hp} (h:Heap) (hb:sysModules<h.objs.size):ObjOk P w H (h.push { cls:=.type "dict",data:=.dict #[] }) h.objs.size (.dK []):=
 ⟨fP _,fM.mpr (Ne.symm (fg hb)),[],.nil,Heap.DictOf.new h⟩
noncomputable def tDNewK:TE:=λ _ H Q=>∀ p,H p=none->Q (.ref p) (upd H p (.dK []))
section
variable {X:Cx} {pos:Pos}
theorem bO:PE X (.Dict [] [] pos) tDNewK:=λ pins s σ H Q I h=>
 wpAny_Dict_empty ⟨.ref s.heap.objs.size,_,I.laid (a:=s.heap.objs.size) (o:=.dK []) (t':=s.toks) (λ _ _ q=>eA _ q) (eC _) (dk_empty s.heap I.big),rfl,h _ (I.hok.fresh (eC _))⟩
end
noncomputable def tPairs:List (TE × TE)->St->Hp->(List (V × V)->Hp->Prop)->Prop
 | [],_,H,Q=>Q [] H
 | (tk,tv)::r,σ,H,Q=>tk σ H λ x H1=>tv σ H1 λ y H2=>tPairs r σ H2 λ ps H3=>Q ((x,y)::ps) H3
noncomputable abbrev VV:List (V × V)->List (Value × Value)->Prop:=Paired λ p q=>RelV p.1 q.1/\RelV p.2 q.2
noncomputable def mergeK (kvs more:List (Key × V)):List (Key × V):=more.foldl (λ acc kv=>aJ acc kv.1 kv.2) kvs
structure M1 (X:Cx) (o:Expr) (m:Str) (apos:Pos) (e:Expr) (cpos:Pos):Prop where
 base:attributeBase o m X.env (eval o X.env)=eval o X.env
 few:((backTo cpos (starEach [e] X.env)).all (λ x=>!x.1) && (backToKw cpos (keywordEach [] X.env)).all (λ x=>x.1.isSome)
  && decide (([e]:List Expr).length+([]:List Keyword).length+(if ([]:List Keyword).isEmpty then 0 else 1)<30))=true
 line:(apos.endLine == cpos.line)=true
 trees:backTo cpos (starEach [e] X.env)=[(false,eval e X.env)]
structure M2 (X:Cx) (o:Expr) (m:Str) (apos:Pos) (e f:Expr) (cpos:Pos):Prop where
 base:attributeBase o m X.env (eval o X.env)=eval o X.env
 few:((backTo cpos (starEach [e,f] X.env)).all (λ x=>!x.1) && (backToKw cpos (keywordEach [] X.env)).all (λ x=>x.1.isSome)
  && decide (([e,f]:List Expr).length+([]:List Keyword).length+(if ([]:List Keyword).isEmpty then 0 else 1)<30))=true
 line:(apos.endLine == cpos.line)=true
 trees:backTo cpos (starEach [e,f] X.env)=[(false,eval e X.env),(false,eval f X.env)]
noncomputable def IsD (H:Hp) (a:Addr):Prop:=(∃ kvs,Rd H a (.dK kvs))∨∃ kvs,Rd H a (.dT kvs)
theorem isD_at {X:Cx} {pins:List (Addr × Obj)} {σ:St} {H:Hp} {s:Shared} {a:Addr} (I:Inv X pins σ H s) (d:IsD H a) :
  s.TypeIs (.ref a) "dict"/\(∀ b,Value.ref a=.ref b->∃ ob,s.heap.get? b=some ob/\ob.dict=none)/\(a == sysModules)=false:=by
 rcases d with ⟨kvs,e⟩ | ⟨kvs,e⟩
 ·obtain ⟨_,hd,vs,_,dd⟩:=cL I.hok e;refine ⟨dd.typeIs,λ b q=>?_,hd⟩
  cases q;obtain ⟨ob,_,_,h1,h2,_⟩:=dd;exact ⟨ob,h1,h2.2.1⟩
 ·obtain ⟨_,hd,xs,_,dd⟩:=dt_rd I.hok e;refine ⟨dd.typeIs,λ b q=>?_,hd⟩
  cases q;obtain ⟨ob,_,_,h1,h2,_⟩:=dd;exact ⟨ob,h1,h2.2.1⟩
section
variable {X:Cx} {pins:List (Addr × Obj)} {σ:St} {H:Hp} {s:Shared} {a:Addr} {y d:V} {u r:Value} {o:Option V} {A:Around} {E:Value->Shared->Prop}
end
noncomputable def tDPop1 (td ty:TE):TE:=λ σ H Q=>td σ H λ x H1=>∃ a,x=.ref a/\IsD H1 a/\ty σ H1 λ y H2=>∃ kvs k v,H2 a=some (.dK kvs)/\y=kV k/\aZ kvs k=some v/\Q v (upd H2 a (.dK (aT kvs k)))
section
variable {X:Cx} {o e f:Expr} {apos cpos:Pos} {td ty tx:TE}
theorem pe_dpop1 (ho:PE X o td) (he:PE X e ty) (m:M1 X o "pop" apos e cpos):PE X (.Call (.Attribute o "pop" apos) [e] [] cpos) (tDPop1 td ty):=by
 intro pins s σ H Q I h;refine wpAny_Call_method m.base m.few m.line fR PySem.F.slot_dict_pop PySem.F.type_dict_pop (thn (ho pins s σ H _ I h) λ u s1 ⟨x,H1,I1,rx,a,ex,d,q1⟩=>?_);subst ex;obtain rfl:u=Value.ref a:=rx;obtain ⟨t1,t2,_⟩:=isD_at I1 d;refine ⟨t1,t2,?_⟩;rw [m.trees];refine Calls.callWith_builtin rfl (Calls.evalArgs_plain (Calls.spliced_cons (thn (he pins s1 σ H1 _ I1 q1) λ iv s2 ⟨y,H2,I2,ry,kvs,k,v,ea,ey,l,q2⟩=>Calls.spliced_nil ?_)));subst ey;exact d_pop I2 ea ry l (.inl rfl) λ w' s3 I3 rw'=>⟨v,_,I3,rw',q2⟩
end
section
variable {X:Cx} {pins:List (Addr × Obj)} {σ:St} {H:Hp} {s:Shared} {a:Addr} {kvs:List (Key × V)} {A:Around} {E:Value->Shared->Prop}
end
section
variable {X:Cx} {pins:List (Addr × Obj)} {σ:St} {H:Hp} {s:Shared} {a:Addr} {y:V} {u:Value} {A:Around} {E:Value->Shared->Prop}
end
end L2
namespace L2
open PySem PySem.Spec PyProof.Rows
section
variable {X:Cx}
theorem call_lenD:bS X (.builtin "len") (λ xs H Q=>∃ a kvs,xs=[V.ref a]/\H a=some (.dK kvs)/\Q (.int kvs.length) H):=by
 intro pins s σ H xs us Q I r h;obtain ⟨a,kvs,rfl,ha,q⟩:=h;obtain ⟨u,rfl,ru⟩:=cQ r
 cases ru;exact d_len I (.inl ha) λ t s' I'=>⟨.int kvs.length,H,I',⟨t,rfl⟩,q⟩
end
end L2
namespace L2
open PySem PySem.Spec PyProof.Rows
section
variable {κ:Type} [DecidableEq κ]
theorem valV_not {kvs:List (κ × V)} {k:κ} (h:aZ kvs k=none):¬ k∈kvs.map (·.1):=by
 intro m;obtain ⟨p,hp,e⟩:=eX.mp m;have q:(kvs.any λ kv=>decide (kv.1=k))=true:=List.any_eq_true.mpr ⟨p,hp,eK e⟩;rw [bL,h] at q;exact absurd q (by simp)
theorem valV_in {kvs:List (κ × V)} {k:κ} {v:V} (h:aZ kvs k=some v):k∈kvs.map (·.1):=by
 have q:(kvs.any λ kv=>decide (kv.1=k))=true:=by
  rw [bL,h]
  all_goals rfl
 obtain ⟨p,hp,e⟩:=List.any_eq_true.mp q;exact eX.mpr ⟨p,hp,of_decide_eq_true e⟩
theorem dropK_pos {p:κ × V} {r:List (κ × V)} {k:κ} (e:p.1=k):aT (p::r) k=aT r k:=by
 unfold aT;rw [List.filter_cons,if_neg (by simp [e])]
theorem dropK_neg {p:κ × V} {r:List (κ × V)} {k:κ} (e:¬ p.1=k):aT (p::r) k=p::aT r k:=by
 unfold aT;rw [List.filter_cons,if_pos (by simp [e])]
theorem dropK_no:∀ {kvs:List (κ × V)} {k:κ},¬ k∈kvs.map (·.1)->aT kvs k=kvs
 | [],_,_=>rfl
 | p::r,k,h=>by
  have h':¬ k∈r.map (·.1):=λ m=>by
   obtain ⟨q,hq,e⟩:=eX.mp m;exact h (eX.mpr ⟨q,eT.mpr (Or.inr hq),e⟩)
  rw [dropK_neg λ e=>h (eX.mpr ⟨p,eT.mpr (Or.inl rfl),e⟩),dropK_no h']
theorem dropK_mem {kvs:List (κ × V)} {k:κ} {p:κ × V} (h:p∈aT kvs k):p∈kvs:=(List.mem_filter.mp h).1
end
end L2
namespace L2
open PySem PySem.Spec PyProof.Rows
section
variable {X:Cx}
noncomputable def PTs (X:Cx) (ifs:List Expr) (t:TT):Prop:=
 ∀ (pins:List (Addr × Obj)) (s:Shared) (σ:St) (H:Hp) (Q:Bool->Hp->Prop),Inv X pins σ H s->t σ H Q->
  wpAny (model X.prog X.w) X.A (forIn ifs true λ c r=>if r=true then do let ok <- isTrue c X.env (eval c X.env);pure (ForInStep.yield ok) else pure (ForInStep.yield r)) (TP X pins σ Q) X.xe s
noncomputable def tYes:TT:=λ _ H Q=>Q true H
theorem pts_nil:PTs X [] tYes:=λ pins s σ H Q I h=>wpAny_tests_nil ⟨H,I,h⟩
noncomputable def ClSub (X:Cx):List (Str × Addr)->Prop
 | []=>True
 | p::r=>X.env.cells.lookup p.1=some p.2/\ClSub X r
theorem ClSub.at:∀ {cl:List (Str × Addr)},ClSub X cl->∀ y c,cl.lookup y=some c->X.env.cells.lookup y=some c
 | [],_,y,c,e=>by simp at e
 | (z,d)::r,h,y,c,e=>by
  by_cases q:y=z
  ·subst q;simp at e;subst e;exact h.1
  ·rw [fb,fM.mpr q] at e;exact ClSub.at h.2 y c e
theorem lookup_has {cl:List (Str × Addr)} {y:Str}:y∈cl.map (·.1)->∃ c,cl.lookup y=some c:=by
 induction cl with
 | nil=>intro h;simp at h
 | cons p r ih=>
  intro h;by_cases q:y=p.1
  ·subst q;exact ⟨p.2,by cases p;simp⟩
  ·obtain ⟨c,e⟩:=ih (by
    rcases eT.mp h with z | z
    ·exact absurd z q
    ·exact z)
   exact ⟨c,by rw [fb,fM.mpr q];exact e⟩
theorem dm {scope:Scope} {env:Env} {z:Str} {k:NameKind} (h:(z,k)∈(relabel scope env).names) (hk:k=.cell∨k=.free):(z,NameKind.cell)∈scope.names∨(z,NameKind.free)∈scope.names:=by
 unfold relabel at h;obtain ⟨⟨n,k'⟩,hm,e⟩:=eX.mp h;dsimp only at e
 split at e
 ·rename_i c
  cases e
  have:k'=.free:=by
   have:=(Bool.and_eq_true_iff.mp (Bool.and_eq_true_iff.mp c).1).1
   simpa using this
  subst this;exact .inr hm
 ·cases e;rcases hk with rfl | rfl
  ·exact .inl hm
  ·exact .inr hm
theorem Clos.many {scope:Scope} {cl:List (Str × Addr)} {ys:List Str} (h:closureFor scope X.env=pure cl) (hs:ClSub X cl) (hy:cl.map (·.1)=ys)
  (hr:∀ p∈scope.names,(p.2=.cell∨p.2=.free)->p.1∈ys):Clos X scope cl:=by
 refine ⟨h,λ y c e=>hs.at y c e,λ y hz=>lookup_has ?_⟩;rw [hy];rcases hz with q | q
 ·rcases dm (fB q) (.inl rfl) with m | m
  ·exact hr _ m (.inl rfl)
  ·exact hr _ m (.inr rfl)
 ·rcases dm (fB q) (.inr rfl) with m | m
  ·exact hr _ m (.inl rfl)
  ·exact hr _ m (.inr rfl)
noncomputable def RdAll (X:Cx) (scope:Scope):List Str->List Nat->Prop
 | [],[]=>True
 | y::ys,j::js=>(X.N[j]?=some y/\X.env.scope.names.lookup y=some .cell/\(relabel scope X.env).names.lookup y=some .cell)/\RdAll X scope ys js
 | _,_=>False
theorem RdAll.len {scope:Scope}:∀ {ys:List Str} {js:List Nat},RdAll X scope ys js->js.length=ys.length
 | [],[],_=>rfl
 | y::ys,j::js,h=>by rw [eV,eV,RdAll.len h.2]
theorem RdAll.at {scope:Scope}:∀ {ys:List Str} {js:List Nat},RdAll X scope ys js->∀ (i:Nat) (y:Str) (j:Nat),ys[i]?=some y->js[i]?=some j->X.N[j]?=some y/\X.env.scope.names.lookup y=some .cell/\(relabel scope X.env).names.lookup y=some .cell
 | [],[],_,i,y,j,e,_=>by simp at e
 | y'::ys,j'::js,h,0,y,j,e1,e2=>by
  simp at e1 e2;subst e1 e2;exact h.1
 | y'::ys,j'::js,h,i+1,y,j,e1,e2=>RdAll.at h.2 i y j (by simpa using e1) (by simpa using e2)
theorem Reads.many {scope:Scope} {ys:List Str} {js:List Nat} (h:RdAll X scope ys js):Reads X scope ys (λ σ=>js.map λ j=>σ.getD j Option.none):=by
 refine λ σ=>⟨by rw [eB,h.len],λ i y v e1 e2=>?_⟩;rw [eN] at e2
 cases q:js[i]? with
 | none=>rw [q] at e2;cases e2
 | some j=>
  rw [q] at e2;obtain ⟨h1,h2,h3⟩:=h.at i y j e1 q;refine ⟨j,h1,?_,h2,h3⟩;have e3:σ.getD j Option.none=some v:=eZ e2;rw [fH] at e3
  cases z:σ[j]? with
  | none=>rw [z] at e3;cases e3
  | some o=>rw [z] at e3;exact fv some e3
noncomputable def tCompG (k:Nat) (wi:TI) (g:TG) (tc:TT) (te:TE) (sel:St->St):TE:=λ σ H Q=>wi σ H λ J H1=>∀ l,H1 l=none->∃ W:Nat->Nat->Hp->Prop,(∃ m,W 0 m (upd H1 l (.lst [])))/\∀ i m H,W i m H->
 (J.stop i H/\Q (.ref l) H)∨(J.go i H/\∀ x H',J.yld i H x H'->∀ zs:St,zs.length=k->g x (zs++sel σ) H' λ σ2 H2=>(∃ zs':St,zs'.length=k/\σ2=zs'++sel σ)/\tc σ2 H2 λ b H3=>if b=true then te σ2 H3 λ y H4=>∃ ys,H4 l=some (.lst ys)/\ys.length<sizeLine/\∃ m',m'<m/\W (i+1) m' (upd H4 l (.lst (ys++[y]))) else ∃ m',m'<m/\W (i+1) m' H3)
theorem cP {prog:Program} {w:World} {A:Around} {R:Result->Shared->Prop} {s:Shared} {elt target iter:Expr} {ifs:List Expr} {scope:Scope} {pos:Pos} {it acc:Value} {env:Env} (I:Nat->Shared->Prop)
  (turn:∀ n s,I n s->wpAny (model prog w) A (pyNext it) (λ r s₁=>match r with
   | none=>R (.ok .next) s₁
   | some v=>wpAny (model prog w) A (letOwnedTupleGo target it v) (λ _ s₁'=>wpAny (model prog w) A (assign target env v) (λ _ s₂=>
     wpAny (model prog w) A (forIn ifs true λ c r=>if r=true then do let ok <- isTrue c env (eval c env);pure (ForInStep.yield ok) else pure (ForInStep.yield r)) (λ ok s₃=>if ok=true then wpAny (model prog w) A (eval elt env) (λ x s₄=>
      wpAny (model prog w) A (call (.builtin "list.append") [acc,x]) (λ _ s₅=>∃ m,m<n/\I m s₅) (λ _ _=>False) s₄) (λ _ _=>False) s₃ else ∃ m,m<n/\I m s₃) (λ _ _=>False) s₂) (λ _ _=>False) s₁') (λ _ _=>False) s₁) (λ _ _=>False) s)
  (n:Nat) (h:I n s) :
  codeAny (model prog w) A (.compLoop (.ListComp elt [⟨target,iter,ifs,0⟩] scope pos) 0 it acc env) R s:=by
 refine codeAny_loop rfl I (λ n s hI=>?_) n h;show wpAny _ _ ((compTurn (.ListComp elt [⟨target,iter,ifs,0⟩] scope pos) 0 it acc env).onRaise (λ x=>do noteFrame x env;theTreesLotGoes x)) _ _ s;refine wpAny_noted ?_;rw [compTurn_list];refine eo (wpAny_standAt (eo (fh (turn n s hI) (λ r s₁ h₁=>?_) λ _ _ h'=>h'.elim)))
 cases r with
 | none=>exact eJ h₁
 | some v=>
  refine eo (fh h₁ (λ _ s₁' h₁'=>?_) λ _ _ h'=>h'.elim);refine eo (fh h₁' (λ _ s₂ h₂=>eo (fh h₂ (λ ok s₃ h₃=>?_) λ _ _ h'=>h'.elim)) λ _ _ h'=>h'.elim)
  cases ok with
  | false=>exact eJ ⟨rfl,h₃⟩
  | true=>exact eo (eo (fh h₃ (λ x s₄ h₄=>eo (fh h₄ (λ _ s₅ h₅=>eJ (eJ ⟨rfl,h₅⟩)) λ _ _ h'=>h'.elim)) λ _ _ h'=>h'.elim))
theorem comp_blockG {elt iter tg:Expr} {ifs:List Expr} {xs:List Str} {pos:Pos} {scope:Scope} {cl:List (Str × Addr)} {rest:List Str} {sel:St->St} {g:TG} {tc:TT} {te:TE} {pins:List (Addr × Obj)} {σ:St} {H:Hp} {s:Shared} {Q:VK}
  {it:Addr} {fp:List Addr} {tn:Nat->Heap->Prop} {J:It} {RR:Value->Addr->Result->Shared->Prop} {E:Value->Shared->Prop}
  (hcalm:X.calm=true) (hkind:scope.kind=.function) (hcell:∀ z∈scope.names,z.2≠.cell) (hc:Clos X scope cl) (hr:Reads X scope rest sel)
  (hg:∀ (C:Addr) (s:Shared) (H:Hp),PG (bA X pins (xs++rest) scope cl C fp s H) tg g) (ht:∀ (C:Addr) (s:Shared) (H:Hp),PTs (bA X pins (xs++rest) scope cl C fp s H) ifs tc)
  (he:∀ (C:Addr) (s:Shared) (H:Hp),PE (bA X pins (xs++rest) scope cl C fp s H) elt te)
  (I:Inv X pins σ H s) (T:Turn X.prog X.w X.K tg J fp it tn) (t0:tn 0 s.heap) (hf:∀ b∈fp,FpOk X pins H b)
  (h:∀ l,H l=none->∃ W:Nat->Nat->Hp->Prop,(∃ m,W 0 m (upd H l (.lst [])))/\∀ i m H,W i m H->
   (J.stop i H/\Q (.ref l) H)∨(J.go i H/\∀ x H',J.yld i H x H'->∀ zs:St,zs.length=xs.length->g x (zs++sel σ) H' λ σ2 H2=>(∃ zs':St,zs'.length=xs.length/\σ2=zs'++sel σ)/\tc σ2 H2 λ b H3=>if b=true then te σ2 H3 λ y H4=>∃ ys,H4 l=some (.lst ys)/\ys.length<sizeLine/\∃ m',m'<m/\W (i+1) m' (upd H4 l (.lst (ys++[y]))) else ∃ m',m'<m/\W (i+1) m' H3))
  (hRR:∀ (D C:Addr) (H':Hp) (s':Shared),Inv X pins σ H' s'->FpOk X pins H' C->(∃ m,s'.heap.Ns C m)->Q (.ref D) H'->RR (.ref D) C (.ok .next) s') :
  wpAny (model X.prog X.w) X.A (newList []) (λ acc s₃=>wpAny (model X.prog X.w) X.A (newFunctionEnv scope X.env.globals cl [] X.env.qual none .none (some X.env)) (λ cenv s₄=>
   codeAny (model X.prog X.w) X.A (.compStart (.ListComp elt [⟨tg,iter,ifs,0⟩] scope pos) 0 (.ref it) acc { cenv with scope:=relabel scope X.env }) (RR acc cenv.locals) s₄) E s₃) E s:=by
 have hD:H s.heap.objs.size=none:=I.hok.fresh (eC _);obtain ⟨W,⟨m0,w0⟩,turn⟩:=h _ hD;refine wpAny_newObj_type ?_
 have I3:Inv X pins σ (upd H s.heap.objs.size (.lst [])) { s with heap:=s.heap.push { cls:=.type "list",dict:=none,data:=.seq ([]:List Value).toArray } }:=
  I.laid (t':=s.toks) (λ b u e=>eA _ e) (eC _) ⟨fP _,[],0,.nil,eM _ rfl⟩
 generalize hs3:({ s with heap:=s.heap.push { cls:=.type "list",dict:=none,data:=.seq ([]:List Value).toArray } }:Shared)=s3 at I3 ⊢;have old3:∀ b o,s.heap.get? b=some o->s3.heap.get? b=some o:=λ b o e=>by rw [<- hs3];exact eA _ e
 refine wpAny_newFunctionEnv hcell (by intro y hy;simp at hy) (λ h1 hns1 hsb1=>?_) hkind;have old4:∀ b o,s3.heap.get? b=some o->h1.get? b=some o:=λ b o e=>hsb1.extBut b o (fg (eL e)) (eA _ e)
 have fD:∀ b∈fp,b≠s.heap.objs.size:=λ b hb z=>by
  obtain ⟨o,e,_⟩:=T.obj 0 _ t0 b hb;exact absurd (eL e) (by rw [z];exact fw _)
 have hf3:∀ b∈fp,FpOk X pins (upd H s.heap.objs.size (.lst [])) b:=λ b hb=>⟨by rw [ag (fD b hb)];exact (hf b hb).1,(hf b hb).2⟩
 have fC:∀ b∈fp,b≠s3.heap.objs.size:=λ b hb z=>by
  obtain ⟨o,e,_⟩:=T.obj 0 _ t0 b hb;exact absurd (eL (old3 b o e)) (by rw [z];exact fw _)
 have cC:∀ y c,cl.lookup y=some c->c≠s3.heap.objs.size:=λ y c e z=>by
  obtain ⟨v,q⟩:=I3.cell y c (hc.sub y c e);exact absurd q.lt (by rw [z];exact fw _)
 have fstk:∀ b∈fp,b ∉ frs X.stack:=λ b hb z=>(eT.mp (I3.stkSub b z)).elim (hf b hb).2.1 (hf b hb).2.2.1
 have ok:(bA X pins (xs++rest) scope cl s3.heap.objs.size fp s3 (upd H s.heap.objs.size (.lst []))).Ok:=by
  refine ⟨I.ok.mod,hkind,I.ok.glob,I.ok.blt,eC _,λ y z c e1 e2=>I.ok.inj y z c (hc.sub y c e1) (hc.sub z c e2),λ y hy=>hc.has y hy,λ y c e=>(nomatch e),I.ok.hd,I.ok.frames,.inl rfl,λ b hb=>⟨fC b hb,λ y c e=>(hf b hb).2.2.2.2.1 y c (hc.sub y c e)⟩,
   I3.bs,eQ I.ok.bsz I3.sz,λ b o e hb=>?_,fstk,I3.stack,I3.stkFree⟩
  rcases (hf b hb).2.2.2.1 with z | z
  ·exact I.ok.noex b o e z
  ·exact absurd (eP (eL e) I.ok.bsz) (Nat.not_lt.mpr z)
 have I4:Inv (bA X pins (xs++rest) scope cl s3.heap.objs.size fp s3 (upd H s.heap.objs.size (.lst []))) [] (xs.map (λ _=>none)++sel σ) (upd H s.heap.objs.size (.lst [])) { s3 with heap:=h1,toks:=s3.toks+([]:List (Str × Value)).length }:=by
  refine ⟨ok,rfl,I3.bare,Un.kept old4,⟨_,hns1,λ i y v e1 e2 e3=>?_⟩,λ y c e=>?_,I3.hok.fresh (eC _),λ y c e=>I3.freeC y c (hc.sub y c e),λ p hp=>?_,I3.hok.kept old4,?_⟩
  ·have hge:xs.length<=i:=by
    apply Classical.byContradiction
    intro hlt;rw [List.getElem?_append_left (by rw [eB];omega),eN] at e2
    cases q:xs[i]? with
    | none=>rw [q] at e2;cases e2
    | some z=>rw [q] at e2;cases e2
   have e1':rest[i-xs.length]?=some y:=by
    have e1:(xs++rest)[i]?=some y:=e1;rw [fF hge] at e1;exact e1
   have e2':(sel σ)[i-xs.length]?=some (some v):=by
    rw [fF (by rw [eB];exact hge),eB] at e2;exact e2
   obtain ⟨j,q1,q2,q3,q4⟩:=(hr σ).2 _ y v e1' e2';obtain ⟨m,hn,hl⟩:=I3.loc;obtain ⟨u,r,l⟩:=hl j y v q1 q2 (.inr (.inl q3));refine ⟨u,r,.inr ⟨.inl q4,?_⟩⟩;obtain ⟨c,ec⟩:=hc.has y (.inl q4);refine ⟨c,ec,?_⟩;rcases l with ⟨k,_⟩ | ⟨_,c',e',z⟩
   ·have k':X.env.scope.names.lookup y=some .local:=k;rw [q3] at k';cases k'
   ·rw [hc.sub y c ec] at e'
    cases e';obtain ⟨o,ho,hd⟩:=z;exact ⟨o,old4 c o ho,hd⟩
  ·obtain ⟨v,o,ho,hd⟩:=I3.cell y c (hc.sub y c e);exact ⟨v,o,old4 c o ho,hd⟩
  ·have hp':p∈X.pn++pins:=by simpa [bA] using hp
   obtain ⟨e,n,ne,nf,d⟩:=I3.pin p hp';exact ⟨old4 _ _ e,n,fg (eL e),λ z=>(eT.mp (I3.stkSub _ z)).elim ne nf,d⟩
  ·show (xs.map (λ _=>none)++sel σ).length=(xs++rest).length;rw [fm,fm,eB,(hr σ).1]
 have stat:∀ {H':Hp},(∀ b∈fp,H' b=none)->∀ b∈fp,FpOk (bA X pins (xs++rest) scope cl s3.heap.objs.size fp s3 (upd H s.heap.objs.size (.lst []))) [] H' b:=λ hn b hb=>
  ⟨hn b hb,fC b hb,fstk b hb,.inl hb,λ y c e=>(hf b hb).2.2.2.2.1 y c (hc.sub y c e),λ p hp=>(hf b hb).2.2.2.2.2 p (by simpa [bA] using hp)⟩
 have t4:tn 0 h1:=T.keep _ _ _ t0 λ b hb o e=>old4 b o (old3 b o e)
 have loop:∀ s4:Shared,s4 = { s3 with heap:=h1,toks:=s3.toks+([]:List (Str × Value)).length }->
   codeAny (model X.prog X.w) X.A (.compLoop (.ListComp elt [⟨tg,iter,ifs,0⟩] scope pos) 0 (.ref it) (.ref s.heap.objs.size) (compEnvC scope cl s3.heap.objs.size X.env)) (RR (.ref s.heap.objs.size) s3.heap.objs.size) s4:=by
  rintro s4 rfl
  refine cP (λ n s'=>∃ i zs H',zs.length=xs.length/\Inv (bA X pins (xs++rest) scope cl s3.heap.objs.size fp s3 (upd H s.heap.objs.size (.lst []))) [] (zs++sel σ) H' s'/\tn i s'.heap/\(∀ b∈fp,H' b=none)/\W i n H') ?_ m0
   ⟨0,_,_,eB _,I4,t4,λ b hb=>(hf3 b hb).1,w0⟩
  rintro n s5 ⟨i,zs,H5,hzs,I5,t5,f5,w5⟩;rcases turn i n H5 w5 with ⟨stop,qn⟩ | ⟨go,step⟩
  ·refine thn (T.done (bA X pins (xs++rest) scope cl s3.heap.objs.size fp s3 (upd H s.heap.objs.size (.lst []))) rfl rfl rfl hcalm i [] s5 _ H5 _ I5 (stat f5) t5 stop) λ r s6 ⟨er,I6⟩=>?_;subst er;have J6:Inv X pins σ H5 s6:=I3.call' (ch:=fp) I6.os I6.base I6.hok I6.bare λ b hb=>⟨(hf b hb).2.2.2.1,(hf b hb).2.1,(hf b hb).2.2.2.2.1,(hf b hb).2.2.2.2.2⟩;exact hRR _ _ H5 s6 J6 (I3.fpOk (eC _) I6.free) (let ⟨m,hn,_⟩:=I6.loc;⟨m,hn⟩) qn
  ·refine thn (T.item (bA X pins (xs++rest) scope cl s3.heap.objs.size fp s3 (upd H s.heap.objs.size (.lst []))) rfl rfl rfl hcalm i [] s5 _ H5 _ I5 (stat f5) t5 go) λ r s6 ⟨u,er,h6⟩=>?_;subst er;refine thn h6 λ _ s7 ⟨y,H7,I7,r7,y7,t7,f7⟩=>?_;have I7':=I7.pinned (stat f7) (T.obj _ _ t7);refine thn (hg _ _ _ _ s7 _ H7 y u _ I7' r7 (step y H7 y7 zs hzs)) λ _ s8 ⟨σ8,H8,I8,⟨zs',hz',e8⟩,q8⟩=>?_;subst e8;refine thn (ht _ _ _ _ s8 _ H8 _ I8 q8) λ b s9 ⟨H9,I9,q9⟩=>?_
   cases b with
   | false=>
    rw [if_neg eO] at q9 ⊢;obtain ⟨m',hm,w9⟩:=q9;refine ⟨m',hm,i+1,zs',_,hz',I9.unpinned,T.keep _ _ _ t7 λ b hb o e=>(I9.pin (b,o) (eR _ (eR _ (bI hb e)))).1,λ b hb=>?_,w9⟩;obtain ⟨o,e,d⟩:=T.obj _ _ t7 b hb;exact (I9.pin (b,o) (eR _ (eR _ (bI hb e)))).2.1
   | true=>
    rw [if_pos rfl] at q9 ⊢;refine thn (he _ _ _ _ s9 _ H9 _ I9 q9) λ z s9 ⟨yv,H9,I9,r9,ys,hl,hz,m',hm,w9⟩=>?_
    refine thn (dc (X:=bA X pins (xs++rest) scope cl s3.heap.objs.size fp s3 (upd H s.heap.objs.size (.lst []))) _ s9 _ H9 (.ref s.heap.objs.size) [yv] (.ref s.heap.objs.size) [z]
     (λ v H'=>H'=upd H9 s.heap.objs.size (.lst (ys++[yv]))) I9 rfl (.cons r9 .nil) ⟨_,ys,yv,rfl,rfl,hl,hz,rfl⟩) λ _ s10 ⟨v10,H10,I10,_,e10⟩=>?_
    subst e10;refine ⟨m',hm,i+1,zs',_,hz',I10.unpinned,T.keep _ _ _ t7 λ b hb o e=>(I10.pin (b,o) (eR _ (eR _ (bI hb e)))).1,λ b hb=>?_,w9⟩;obtain ⟨o,e,d⟩:=T.obj _ _ t7 b hb;exact (I10.pin (b,o) (eR _ (eR _ (bI hb e)))).2.1
 exact codeAny_compStart_list (loop _ rfl) (T.self _ 0 _ _ _ t4 (loop _ rfl))
theorem pe_compG {elt iter tg:Expr} {ifs:List Expr} {xs:List Str} {pos:Pos} {scope:Scope} {cl:List (Str × Addr)} {rest:List Str} {sel:St->St} {g:TG} {tc:TT} {te:TE} {wi:TI}
  (hcalm:X.calm=true) (hi:PI X tg iter wi) (hg:∀ (pins:List (Addr × Obj)) (fp:List Addr) (C:Addr) (s:Shared) (H:Hp),PG (bA X pins (xs++rest) scope cl C fp s H) tg g) (ht:∀ (pins:List (Addr × Obj)) (fp:List Addr) (C:Addr) (s:Shared) (H:Hp),PTs (bA X pins (xs++rest) scope cl C fp s H) ifs tc)
  (he:∀ (pins:List (Addr × Obj)) (fp:List Addr) (C:Addr) (s:Shared) (H:Hp),PE (bA X pins (xs++rest) scope cl C fp s H) elt te)
  (hc:Clos X scope cl) (hr:Reads X scope rest sel) (hkind:scope.kind=.function:=by rfl) (hcell:∀ z∈scope.names,z.2≠.cell:=by decide +kernel) (hnames:∀ z∈scope.names,z.2=.local->scope.names.lookup z.1=some .local:=by decide +kernel)
  (hs:∀ x,foldedSetIterable iter X.env x=pure x:=by intro _;rfl) :
  PE X (.ListComp elt [⟨tg,iter,ifs,0⟩] scope pos) (tCompG xs.length wi g tc te sel):=by
 intro pins s σ H Q I h;rw [eval_ListComp];refine wpAny_comprehension_free (use:=none) rfl hs hc.clos hkind hnames (thn (hi pins s σ H _ I h) λ v s1 h1=>thn h1 λ itv s2 h2=>?_);obtain ⟨it,fp,tn,J,H2,rfl,I2,T,t2,f2,q2⟩:=h2;refine comp_blockG (RR:=λ acc C=>compPost (model X.prog X.w) X.A X.xe none (EP X pins σ Q) acc C) hcalm hkind hcell hc hr (hg pins fp) (ht pins fp) (he pins fp) I2 T t2 f2 q2 λ D C H' s' I' fC ⟨m,hn⟩ q=>?_;exact ⟨m,hn,λ h' sb=>⟨.ref D,H',I'.turned (t':=s'.toks) (λ b o hb e=>(sb.2 b hb).trans e) fC.1 fC.2.1 fC.2.2.2.1 fC.2.2.2.2.1 fC.2.2.2.2.2,rfl,q⟩⟩
end
end L2
namespace L2
open PySem PySem.Spec PyProof.Rows
section
variable {X:Cx} {pins:List (Addr × Obj)} {σ:St} {H:Hp} {s:Shared} {a:Addr} {o:Obj} {u:HO}
theorem Inv.freeze (I:Inv X pins σ H s) (ha:H a=some u) (mu:Mut (some u)) (ho:s.heap.get? a=some o):Inv X pins σ (upd H a (.frz o u)) s:=by
 have mu':Mut (H a):=by rw [ha];exact mu
 have nown:∀ c y,H c=some (.own y)->c≠a:=λ c y r z=>by subst z;rw [r] at mu';exact mu'
 have ntup:∀ c xs,H c=some (.tup xs)->c≠a:=λ c xs r z=>by subst z;rw [r] at mu';exact mu'
 refine I.un (t':=s.toks) (Un.write (x:=a) (e:=a) mu' (.inl rfl) (λ _ _ _ q=>q) ⟨o,ho⟩) (I.hok.write (x:=a) (e:=a) mu' (.inl rfl) (λ _ _ _ q=>q) ⟨o,ho⟩ ⟨ho,?_⟩);exact (I.hok a u ha).stay (λ _ _ _ q=>q) (λ c r=>by rw [ag (nown c a r)];exact r) λ c xs r=>by rw [ag (ntup c xs r)];exact r
theorem Inv.thaw (I:Inv X pins σ H s) (ha:H a=some (.frz o u)) (h0:∀ o' u',X.H₀ a≠some (.frz o' u')):Inv X pins σ (upd H a u) s:=by
 have nown:∀ c y,H c=some (.own y)->c≠a:=λ c y r z=>by subst z;rw [r] at ha;cases ha
 have ntup:∀ c xs,H c=some (.tup xs)->c≠a:=λ c xs r z=>by subst z;rw [r] at ha;cases ha
 have nn:∀ c,H c=none->c≠a:=λ c r z=>by subst z;rw [r] at ha;cases ha
 have up:∀ c,H c=none->upd H a u c=none:=λ c r=>by rw [ag (nn c r)];exact r
 refine ⟨I.ok,I.os,I.bare,⟨I.base.keep,I.base.slot,λ b ob e n hx=>up b (I.base.free b ob e n hx),I.base.there,λ b xs e=>?_,λ b ob z e=>?_,λ b ps e=>?_⟩,I.loc,I.cell,up _ I.free,λ x c e=>up _ (I.freeC x c e),λ p hp=>?_,λ b ob e=>?_,I.len⟩
 ·have q:=I.base.tups b xs e;rw [ag (ntup b xs q)];exact q
 ·have q:=I.base.frzs b ob z e;have nb:b≠a:=λ z'=>by subst z';exact h0 _ _ e
  rw [ag nb];exact q
 ·obtain ⟨m,q⟩:=I.base.tbls b ps e;have nb:b≠a:=λ z'=>by subst z';rw [q] at ha;cases ha
  exact ⟨m,by rw [ag nb];exact q⟩
 ·obtain ⟨e,n,r⟩:=I.pin p hp;exact ⟨e,up _ n,r⟩
 ·by_cases hb:b=a
  ·subst hb;rw [ac] at e
   cases e;obtain ⟨_,q⟩:=I.hok b _ ha;exact q.stay (λ _ _ _ q=>q) (λ c r=>by rw [ag (nown c b r)];exact r) λ c xs r=>by rw [ag (ntup c xs r)];exact r
  ·rw [ag hb] at e;exact (I.hok b ob e).stay (λ _ _ _ q=>q) (λ c r=>by rw [ag (nown c b r)];exact r) λ c xs r=>by rw [ag (ntup c xs r)];exact r
theorem Inv.nofrz (I:Inv X pins σ H s) (ha:H a=some u) (nu:∀ o' u',u≠.frz o' u'):∀ o' u',X.H₀ a≠some (.frz o' u'):=λ o' u' e=>by
 have q:=I.base.frzs a o' u' e;rw [ha] at q;exact nu _ _ (eZ q)
noncomputable def tThawS (t:TS):TS:=λ D σ H=>∃ a u,H a=some u/\(∀ o' u',u≠.frz o' u')/\t { D with nx:=λ σ' H'=>∃ o,H' a=some (.frz o u)/\D.nx σ' (upd H' a u),rt:=λ v H'=>∃ o,H' a=some (.frz o u)/\D.rt v (upd H' a u),ct:=λ σ' H'=>∃ o,H' a=some (.frz o u)/\D.ct σ' (upd H' a u),bk:=λ σ' H'=>∃ o,H' a=some (.frz o u)/\D.bk σ' (upd H' a u) } σ H
theorem ps_thaw {st:Stmt} {t:TS} (h:PS X st t):PS X st (tThawS t):=by
 intro pins s σ H D I q;obtain ⟨a,u,ha,nu,q⟩:=q;have hn:=I.nofrz ha nu;refine thn (h pins s σ H _ I q) λ f s1 q1=>?_
 cases f with
 | next=>obtain ⟨σ1,H1,I1,o,e1,q2⟩:=q1;exact ⟨σ1,_,I1.thaw e1 hn,q2⟩
 | cont=>obtain ⟨σ1,H1,I1,o,e1,q2⟩:=q1;exact ⟨σ1,_,I1.thaw e1 hn,q2⟩
 | brk=>obtain ⟨σ1,H1,I1,o,e1,q2⟩:=q1;exact ⟨σ1,_,I1.thaw e1 hn,q2⟩
 | ret v=>obtain ⟨x,σ1,H1,I1,r1,o,e1,q2⟩:=q1;exact ⟨x,σ1,_,I1.thaw e1 hn,r1,q2⟩
noncomputable def Itd (a:Addr) (o:Obj) (kvs:List (Key × V)):It:=
 ⟨λ i H=>H a=some (.frz o (.dK kvs))/\i<kvs.length,λ i H x H'=>H'=H/\∃ kv,kvs[i]?=some kv/\x=kV kv.1,λ i H=>H a=some (.frz o (.dK kvs))/\kvs.length<=i⟩
theorem KV.get {κ:Type}:∀ {kvs:List (κ × V)} {vs:List (κ × Value)} {i:Nat} {kv:κ × V},KV kvs vs->kvs[i]?=some kv->∃ v,vs[i]?=some (kv.1,v)/\RelV kv.2 v
 | _,_,_,_,.nil,e=>by simp at e
 | _,_,0,kv,.cons (b:=b) r t,e=>by
  simp at e;subst e;exact ⟨b.2,by simp [r.1],r.2⟩
 | _,_,i+1,kv,.cons r t,e=>by
  obtain ⟨v,e',r'⟩:=KV.get (i:=i) t (by simpa using e);exact ⟨v,by simpa using e',r'⟩
theorem is_kV {P:Program} {w:World} {k:Key} {u:Value} (h:(aR P w).is k u=true):RelV (kV k) u:=by
 rcases aW (show keyIs k u=true from h) with ⟨i,t,rfl,rfl⟩ | ⟨x,t,rfl,rfl⟩
 ·exact ⟨t,rfl⟩
 ·exact ⟨t,rfl⟩
theorem turn_dict {P:Program} {w:World} {K:W.Frag} {tg:Expr} (a it:Addr) (o:Obj) (kvs:List (Key × V)) {es:Array DictEntry} {ep:Nat} (hd:o.data=.dict es ep):Turn P w K tg (Itd a o kvs) [it] it (λ i h=>h.IsKeyIter it a i kvs.length ep) where
 mem:=by simp
 obj:=λ i h st b hb=>by
  have e:b=it:=by simpa using hb
  subst e;obtain ⟨o,e,c,d⟩:=st;exact ⟨o,e,λ v z=>by rw [d] at z;cases z⟩
 keep:=λ i h h' st k=>st.at λ o e=>k it (by simp) o e
 item:=by
  intro X hP hw hK hc i pins s σ H E I hf st hg;subst hP hw hK;obtain ⟨ha,hi⟩:=hg;obtain ⟨ho,hz,hs,vs,r,o',es',ep',e1,e2,e3,e4,e5,e6⟩:=I.hok a _ ha;rw [ho] at e1;cases e1;rw [hd] at e3;cases e3;have hx:kvs[i]?=some kvs[i]:=eI hi;obtain ⟨v,hv,rv⟩:=KV.get r hx;obtain ⟨f0,f1,f2,f3,f4,f5⟩:=hf it (by simp);have st0:s.heap.IsKeyIter it a i vs.length ep:=by rw [<- r.length];exact st
  refine wpAny_pyNext_dict_item st0 ⟨o,es,ho,e2,hd,e4,e5,e6⟩ hv λ key h' hk st' sb=>?_;rw [<- r.length] at st';have I1:Inv X pins σ H { s with heap:=h' }:=I.turned (t':=s.toks) (λ b o hb e=>(sb.2 b hb).trans e) f0 f1 f3 f4 f5;obtain ⟨oi,e,c,d⟩:=id st';exact ⟨key,rfl,go_of (s:={ s with heap:=h' }) e c d (by decide) ⟨kV (kvs[i]).1,H,I1,is_kV hk,⟨rfl,_,hx,rfl⟩,st',λ b hb=>(hf b hb).1⟩⟩
 done:=by
  intro X hP hw hK hc i pins s σ H E I hf st hg;subst hP hw hK;obtain ⟨ha,hi⟩:=hg;obtain ⟨ho,hz,hs,vs,r,o',es',ep',e1,e2,e3,e4,e5,e6⟩:=I.hok a _ ha;rw [ho] at e1;cases e1;rw [hd] at e3;cases e3;obtain ⟨f0,f1,f2,f3,f4,f5⟩:=hf it (by simp);have st0:s.heap.IsKeyIter it a i vs.length ep:=by rw [<- r.length];exact st
  exact wpAny_pyNext_dict_end (I.ok.hd hc) st0 ⟨o,es,ho,e2,hd,e4,e5,e6⟩ (List.getElem?_eq_none (by rw [<- r.length];exact hi)) λ h' eb=>⟨rfl,I.turned (t':=s.toks) (λ b o hb e=>eb b o hb e) f0 f1 f3 f4 f5⟩
 self:=λ _ _ _ _ _ st h=>wpAny_pyIter_keyiter st h
noncomputable def iDic (tl:TE):TI:=λ σ H R=>tl σ H λ x H1=>∃ a kvs,x=.ref a/\H1 a=some (.dK kvs)/\∀ o,R (Itd a o kvs) (upd H1 a (.frz o (.dK kvs)))
theorem pi_dict {tg l:Expr} {tl:TE} (hl:PE X l tl):PI X tg l (iDic tl):=by
 intro pins s σ H R I h;refine thn (hl pins s σ H _ I h) λ v s1 ⟨x,H1,I1,r1,q1⟩=>?_;obtain ⟨a,kvs,e,ha,q⟩:=q1;subst e
 cases r1;obtain ⟨hz,hs,vs,r,o,es,ep,e1,e2,e3,e4,e5,e6⟩:=dk_of I1.hok ha;have I2:Inv X pins σ (upd H1 a (.frz o (.dK kvs))) s1:=I1.freeze ha True.intro e1;refine wpAny_pyIter_dict hs ⟨o,es,e1,e2,e3,e4,e5,e6⟩ ?_;refine ⟨s1.heap.objs.size,[s1.heap.objs.size],_,_,_,rfl,I2.kept (t':=s1.toks) λ b o e=>eA _ e,turn_dict a _ o kvs e3,⟨_,eM _ rfl,rfl,by rw [r.length];rfl⟩,λ b hb=>?_,q o⟩;have e:b=s1.heap.objs.size:=by simpa using hb
 subst e;exact I2.fpOk (eC _) (I2.hok.fresh (eC _))
end
theorem for_dict {a:Addr} {o:Obj} {kvs:List (Key × V)} {g:TG} {tb:TS} {D:Ends} {σ:St} {H:Hp} (Pv:Nat->St->Hp->Prop) (h0:Pv 0 σ H) (hl:∀ i σ H,i<=kvs.length->Pv i σ H->H a=some (.frz o (.dK kvs)))
  (hs:∀ i kv σ H,kvs[i]?=some kv->Pv i σ H->g (kV kv.1) σ H λ σ2 H2=>tb { D with nx:=Pv (i+1),ct:=Pv (i+1),bk:=D.nx } σ2 H2) (hd:∀ σ H,Pv kvs.length σ H->D.nx σ H) :
  ∃ W:Nat->Nat->St->Hp->Prop,(∃ m,W 0 m σ H)/\∀ i m σ H,W i m σ H->
   ((Itd a o kvs).stop i H/\D.nx σ H)∨((Itd a o kvs).go i H/\∃ N:St->Hp->Prop,(∀ σ' H',N σ' H'->∃ m',m'<m/\W (i+1) m' σ' H')/\∀ x H',(Itd a o kvs).yld i H x H'->g x σ H' λ σ2 H2=>tb { D with nx:=N,ct:=N,bk:=D.nx } σ2 H2):=by
 refine ⟨λ i m σ H=>m=kvs.length-i/\i<=kvs.length/\Pv i σ H,⟨kvs.length,by simp,fP _,h0⟩,?_⟩;rintro i m σ H ⟨rfl,hi,p⟩;have q:=hl i σ H hi p;by_cases hlt:i<kvs.length
 ·refine .inr ⟨⟨q,hlt⟩,Pv (i+1),λ σ' H' p'=>⟨kvs.length-(i+1),by omega,rfl,hlt,p'⟩,λ x H' y=>?_⟩;obtain ⟨e,kv,hkv,ex⟩:=y;subst e ex;exact hs i kv σ _ hkv p
 ·have e:i=kvs.length:=by omega
  subst e;exact .inl ⟨⟨q,eC _⟩,hd σ H p⟩
end L2
namespace L2
open PySem PySem.Spec PyProof.Rows
noncomputable def d9 (n:Nat) (Pv:Nat->Hp->Prop) (i:Nat) (H:Hp):Prop:=∃ m',m'<n-i/\m'=n-(i+1)/\i+1<=n/\Pv (i+1) H
theorem nextP {n i:Nat} {Pv:Nat->Hp->Prop} {H:Hp} (hi:i<n) (h:Pv (i+1) H):d9 n Pv i H:=⟨n-(i+1),by omega,rfl,hi,h⟩
section
variable {l:Addr} {k:Nat} {g:TG} {tc:TT} {te:TE} {ρ:St} {R:Hp->Prop} {H₀:Hp}
theorem compG_by {J:It} {n:Nat} (Pv:Nat->Hp->Prop) (h0:Pv 0 (upd H₀ l (.lst []))) (hgo:∀ i H,i<n->Pv i H->J.go i H) (hst:∀ H,Pv n H->J.stop n H)
  (hs:∀ i x H H',i<n->J.yld i H x H'->Pv i H->∀ zs:St,zs.length=k->g x (zs ++ ρ) H' λ σ2 H2=>(∃ zs':St,zs'.length=k/\σ2=zs' ++ ρ)/\tc σ2 H2 λ b H3=>if b=true then te σ2 H3 λ y H4=>∃ ys,H4 l=some (.lst ys)/\ys.length<sizeLine/\d9 n Pv i (upd H4 l (.lst (ys++[y]))) else d9 n Pv i H3)
  (hd:∀ H,Pv n H->R H) :
  ∃ W:Nat->Nat->Hp->Prop,(∃ m,W 0 m (upd H₀ l (.lst [])))/\∀ i m H,W i m H->
   (J.stop i H/\R H)∨(J.go i H/\∀ x H',J.yld i H x H'->∀ zs:St,zs.length=k->g x (zs ++ ρ) H' λ σ2 H2=>(∃ zs':St,zs'.length=k/\σ2=zs' ++ ρ)/\tc σ2 H2 λ b H3=>if b=true then te σ2 H3 λ y H4=>∃ ys,H4 l=some (.lst ys)/\ys.length<sizeLine/\∃ m',m'<m/\W (i+1) m' (upd H4 l (.lst (ys++[y]))) else ∃ m',m'<m/\W (i+1) m' H3):=by
 refine ⟨λ i m H=>m=n-i/\i<=n/\Pv i H,⟨n,by simp,fP _,h0⟩,?_⟩;rintro i m H ⟨rfl,hi,p⟩;by_cases hlt:i<n
 ·exact .inr ⟨hgo i H hlt p,λ x H' y=>hs i x H H' hlt y p⟩
 ·have e:i=n:=by omega
  subst e;exact .inl ⟨hst H p,hd H p⟩
theorem compG_list {K:W.Frag} {a:Addr} {xs:List V} (Pv:Nat->Hp->Prop) (h0:Pv 0 (upd H₀ l (.lst []))) (hl:∀ i H,Pv i H->SqL K H a xs)
  (hs:∀ i x H,xs[i]?=some x->Pv i H->∀ zs:St,zs.length=k->g x (zs ++ ρ) H λ σ2 H2=>(∃ zs':St,zs'.length=k/\σ2=zs' ++ ρ)/\tc σ2 H2 λ b H3=>if b=true then te σ2 H3 λ y H4=>∃ ys,H4 l=some (.lst ys)/\ys.length<sizeLine/\d9 xs.length Pv i (upd H4 l (.lst (ys++[y]))) else d9 xs.length Pv i H3)
  (hd:∀ H,Pv xs.length H->R H) :
  ∃ W:Nat->Nat->Hp->Prop,(∃ m,W 0 m (upd H₀ l (.lst [])))/\∀ i m H,W i m H->
   ((Itl K a).stop i H/\R H)∨((Itl K a).go i H/\∀ x H',(Itl K a).yld i H x H'->∀ zs:St,zs.length=k->g x (zs ++ ρ) H' λ σ2 H2=>(∃ zs':St,zs'.length=k/\σ2=zs' ++ ρ)/\tc σ2 H2 λ b H3=>if b=true then te σ2 H3 λ y H4=>∃ ys,H4 l=some (.lst ys)/\ys.length<sizeLine/\∃ m',m'<m/\W (i+1) m' (upd H4 l (.lst (ys++[y]))) else ∃ m',m'<m/\W (i+1) m' H3):=
 compG_by (n:=xs.length) Pv h0 (λ i H hi p=>⟨xs,xs[i],hl i H p,eI hi⟩) (λ H p=>⟨xs,hl _ H p,eC _⟩) (λ i x H H' hi y p=>by
  obtain ⟨e,y⟩:=y;subst e;exact hs i x _ (y xs (hl i _ p)) p) hd
end
theorem g1 {v:V} {ρ:St} {H:Hp} {Q:St->Hp->Prop} (h:Q (some v :: ρ) H):∀ zs:St,zs.length=1->gName 0 v (zs ++ ρ) H Q:=λ zs hz=>by
 match zs,hz with
 | [z],_=>exact h
theorem yes {σ:St} {H:Hp} {A B:Hp->Prop} (h:A H):tYes σ H (λ b H3=>if b=true then A H3 else B H3):=by
 show if true=true then A H else B H
 rw [if_pos rfl];exact h
end L2
namespace L2
open PySem PySem.Spec PyProof.Rows
section
variable {X:Cx}
noncomputable def Iti (a:Addr) (o:Obj) (kvs:List (Key × V)):It:=
 ⟨λ i H=>H a=some (.frz o (.dK kvs))/\i<kvs.length,λ i H x H'=>∃ kv t,kvs[i]?=some kv/\H t=none/\x=.ref t/\H'=upd H t (.tup [kV kv.1,kv.2]),λ i H=>H a=some (.frz o (.dK kvs))/\kvs.length<=i⟩
theorem Inv.trackI {pins:List (Addr × Obj)} {σ:St} {H:Hp} {s:Shared} {t:Addr} {o:HO} (I:Inv X pins σ H s) (h0:X.s₀.heap.objs.size<=t) (hn:H t=none) (hL:t≠X.env.locals) (hc:∀ x c,X.env.cells.lookup x=some c->c≠t) (hp:∀ p∈X.pn++pins,p.1≠t) (hok:HOk X.prog X.w (upd H t o) s.heap):Inv X pins σ (upd H t o) s:=by
 have up:∀ c,c≠t->H c=none->upd H t o c=none:=λ c n r=>by rw [ag n];exact r
 refine ⟨I.ok,I.os,I.bare,⟨I.base.keep,I.base.slot,λ b ob e n hx=>up b (fg (eP (eL e) h0)) (I.base.free b ob e n hx),I.base.there,λ b xs e=>?_,λ b ob z e=>?_,λ b ps e=>?_⟩,I.loc,I.cell,up _ hL.symm I.free,λ x c e=>up _ (hc x c e) (I.freeC x c e),λ p hp'=>?_,hok,I.len⟩
 ·have q:=I.base.tups b xs e;rw [ag (ay q hn)];exact q
 ·have q:=I.base.frzs b ob z e;rw [ag (ay q hn)];exact q
 ·obtain ⟨m,q⟩:=I.base.tbls b ps e;exact ⟨m,by rw [ag (ay q hn)];exact q⟩
 ·obtain ⟨e,n,r⟩:=I.pin p hp';exact ⟨e,up _ (hp p hp') n,r⟩
end
end L2
namespace L2
open PySem PySem.Spec PyProof.Rows
theorem vals_idx:∀ {xs:List V} {us:List Value},xs.length=us.length->(∀ (j:Nat) (x:V) (u:Value),xs[j]?=some x->us[j]?=some u->RelV x u)->Vals xs us
 | [],[],_,_=>.nil
 | [],_::_,h,_=>by cases h
 | _::_,[],h,_=>by cases h
 | x::xs,u::us,h,k=>.cons (k 0 x u rfl rfl) (vals_idx (Nat.succ.inj h) λ j y w a b=>k (j+1) y w (by simpa using a) (by simpa using b))
section
variable {X:Cx}
theorem ce (hh:X.A.handled=none):bS X (.type "list") (λ xs H Q=>∃ p kvs,xs=[.ref p]/\Rd H p (.dK kvs)/\∀ l,H l=none->Q (.ref l) (upd H l (.lst (kvs.map λ kv=>kV kv.1)))):=by
 intro pins s σ H xs us Q I r h;obtain ⟨p,kvs,rfl,hp,q⟩:=h;obtain ⟨u,rfl,rx⟩:=cQ r
 cases rx;obtain ⟨hz,hs,vs,kv,hD⟩:=cL I.hok hp;obtain ⟨ep,hat⟩:=hD.dictAt;have el:=kv.length;refine PySem.W.kdl_call (PySem.W.kdl_dict (knd:=aR X.prog X.w) (kvs:=vs) (ep:=ep) hs) hh hat (by rw [<- el];exact hz) λ h' tk acc c hk hD' hacc=>?_;obtain ⟨e1,e2⟩:=hacc;refine ⟨.ref s.heap.objs.size,_,I.laid (t':=tk) hk (eC _) (show ObjOk X.prog X.w _ h' _ (.lst (kvs.map λ kv=>kV kv.1)) from ⟨by rw [eB];exact hz,acc.toList,c,vals_idx (by rw [eB,el,<- e1];simp) λ j x w a b=>?_,by simpa using hD'⟩),rfl,q _ (I.hok.fresh (eC _))⟩;rw [eN] at a
 cases e:kvs[j]? with
 | none=>rw [e] at a;cases a
 | some z=>
  rw [e] at a
  cases a;obtain ⟨v,hv,_⟩:=KV.get kv e;obtain ⟨k,y,hk,hi⟩:=e2 j w (by simpa using b);rw [hv] at hk
  cases hk;exact is_kV hi
noncomputable def dB (v d:Addr):HO:=.ext λ h=>h.IsValuesView v d
noncomputable def rValues:V->List V->Hp->VK->Prop:=λ x vs H Q=>∃ a kvs,x=.ref a/\vs=[]/\Rd H a (.dK kvs)/\∀ v,H v=none->Q (.ref v) (upd H v (dB v a))
theorem mt_values:MtM X "dict.values" rValues:=by
 intro pins s σ H x vs v us Q I rx rv h;obtain ⟨a,kvs,rfl,rfl,ha,q⟩:=h
 cases rx
 cases rv;obtain ⟨hz,hs,ws,kv,hD⟩:=cL I.hok ha;refine call_meetsIn PySem.F.slot_dict_values hD.typeIs PySem.F.entry_dict_values (PySem.F.args_dict_values_1 _) (meets_dict_values (aR X.prog X.w) a hs) ⟨⟨ws,hD⟩,?_⟩;have e:(s.heap.push { cls:=.type "dict_values",data:=.fields #[.ref a] }).get? s.heap.objs.size=some { cls:=.type "dict_values",data:=.fields #[.ref a] }:=eM _ rfl;refine ⟨.ref s.heap.objs.size,_,I.laid (t':=s.toks) (λ b o e=>eA _ e) (eC _) (show ObjOk X.prog X.w _ _ _ (dB _ a) from ⟨⟨_,e,rfl,rfl⟩,⟨_,e⟩,λ h1 h2 z k=>?_⟩),rfl,q _ (I.hok.fresh (eC _))⟩;obtain ⟨o,ho,c⟩:=z;exact ⟨o,k _ ho,c⟩
theorem c7 (hh:X.A.handled=none):bS X (.type "list") (λ xs H Q=>∃ v a kvs,xs=[.ref v]/\H v=some (dB v a)/\Rd H a (.dK kvs)/\∀ l,H l=none->Q (.ref l) (upd H l (.lst (kvs.map (·.2))))):=by
 intro pins s σ H xs us Q I r h;obtain ⟨v,p,kvs,rfl,hv,hp,q⟩:=h;obtain ⟨u,rfl,rx⟩:=cQ r
 cases rx;obtain ⟨hz,hs,vs,kv,hD⟩:=cL I.hok hp;obtain ⟨ep,hat⟩:=hD.dictAt;obtain ⟨hview,_⟩:=(show ObjOk X.prog X.w H s.heap v (dB v p) from I.hok v _ hv);have el:=kv.length;refine PySem.W.kdl_call (PySem.W.kdl_values (knd:=aR X.prog X.w) (kvs:=vs) (ep:=ep)) hh ⟨hview,hat⟩ (by rw [<- el];exact hz) λ h' tk acc c hk hD' hacc=>?_;obtain ⟨e1,e2⟩:=hacc;refine ⟨.ref s.heap.objs.size,_,I.laid (t':=tk) hk (eC _) (show ObjOk X.prog X.w _ h' _ (.lst (kvs.map (·.2))) from ⟨by rw [eB];exact hz,acc.toList,c,vals_idx (by rw [eB,el,<- e1];simp) λ j x w a b=>?_,by simpa using hD'⟩),rfl,q _ (I.hok.fresh (eC _))⟩;rw [eN] at a
 cases e:kvs[j]? with
 | none=>rw [e] at a;cases a
 | some z=>
  rw [e] at a
  cases a;obtain ⟨y,hy,ry⟩:=KV.get kv e;obtain ⟨k,hk⟩:=e2 j w (by simpa using b);rw [hy] at hk
  cases hk;exact ry
end
end L2
namespace L2
open PySem PySem.Spec PyProof.Rows
section
variable {X:Cx}
end
section
variable {l:Addr} {k:Nat} {g:TG} {tc:TT} {te:TE} {ρ:St} {R:Hp->Prop} {H₀:Hp}
end
section
variable {X:Cx} {CX:CXT} {j:Nat} {E:XK} {m:Str} {pos apos:Pos} {e o:Expr} {es:List Expr} {ta:TE} {t:TA}
theorem pg_tupK {K:W.Frag} {es:List Expr} {k:Nat} {t:TGs} {n:Nat} (hK:X.K=K) (hc:X.calm=true) (h:PGs X es t)
  (hn:(assignEach es X.env).length=n:=by rfl) (hst:(assignEach es X.env).findIdx? (·.1)=none:=by rfl):PG X (.Tuple es k pos) (gTup K n t):=by
 subst hK;exact pg_tup hc h hn hst
end
section
variable {X:Cx}
end
end L2
namespace L2
open PySem PySem.Spec PyProof.Rows
theorem eqV_str (x y:Str):eqV (.str x) (.str y)=decide (x=y):=by
 unfold eqV;by_cases h:x=y
 ·subst h;simp
 ·simp [h]
theorem cA (ts:List Str):(ts.map V.str).all bu=true:=by
 rw [fL];intro v hv;obtain ⟨t,_,rfl⟩:=eX.mp hv;rfl
section
variable {X:Cx}
end
section
variable {prog:Program} {w:World} {A:Around}
variable {E:Value->Shared->Prop} {s:Shared}
end
section
variable {X:Cx}
inductive IrNeL (K:W.Frag) (x:V) (y:V) (H:Hp) (Q:VK):Prop
 | mk (p:_) (q:_) (xs:_) (ys:_) (h1:x=.ref p) (h2:y=.ref q) (h3:SqL K H p xs) (h4:SqL K H q ys) (h5:xs.all bu=true) (h6:ys.all bu=true) (h7:Q (.bl (!bJ xs ys)) H):IrNeL K x y H Q
noncomputable def rNeL (K:W.Frag):R2:=λ x y H Q=>IrNeL K x y H Q
theorem op_neL (hu:X.A.units<cLine):OpR X (compareOp .NotEq) (rNeL X.K):=by
 intro pins s σ H x y v u Q I rx ry h;obtain ⟨p,q,xs,ys,rfl,rfl,hp,hq,fx,fy,k⟩:=h
 cases rx
 cases ry;obtain ⟨us,r,pl,_⟩:=I.list hp;obtain ⟨ws,r',pl',_⟩:=I.list hq;have e1:=r.length;have e2:=r'.length;by_cases hl:xs.length=ys.length
 ·refine SeqAt.RcNeAt.lists (e:=dA xs ys) pl.isList pl'.isList (by simp;omega) hu (λ j h1 h2=>?_) X.prog X.w X.xe _ ⟨.bl _,H,I,rfl,?_⟩
  ·have j1:j<us.length:=by simpa using h1
   have j2:j<ws.length:=by simpa using h2
   have a1:xs[j]?=some (xs[j]'(by omega)):=eI _;have a2:ys[j]?=some (ys[j]'(by omega)):=eI _
   have:dA xs ys j=eqV (xs[j]'(by omega)) (ys[j]'(by omega)):=by unfold dA;rw [a1,a2]
   rw [this,List.getElem_toArray,List.getElem_toArray];exact eqAt_V (dL r a1 (eI j1)) (dL r' a2 (eI j2)) (fL.mp fx _ (List.getElem_mem _)) (fL.mp fy _ (List.getElem_mem _))
  ·rw [eU,<- e1,eqVs_all hl];exact k
 ·refine SeqAt.RcNeAt.lists_lengths pl.isList pl'.isList (by simp;omega) hu X.prog X.w X.xe _ ⟨.bl _,H,I,rfl,?_⟩;rw [eqVs_len hl] at k;exact k
end
end L2
namespace L2
open PySem PySem.Spec PyProof.Rows
section
variable {X:Cx}
theorem tup_all {xs ys:List V} {us ws:List Value} (e1:xs.length=us.length) (e2:ys.length=ws.length):((List.range (min us.toArray.size ws.toArray.size)).all (dA xs ys) && us.toArray.size == ws.toArray.size)=bJ xs ys:=by
 rw [eU,eU,<- e1,<- e2];by_cases hl:xs.length=ys.length
 ·rw [<- hl,Nat.min_self,eqVs_all hl];simp
 ·rw [eqVs_len hl];simp [hl]
theorem tup_eqs {pins:List (Addr × Obj)} {σ:St} {H:Hp} {s:Shared} {xs ys:List V} {us ws:List Value} (I:Inv X pins σ H s) (r:Vals xs us) (r':Vals ys ws) (fx:xs.all bu=true) (fy:ys.all bu=true) {A:Around}:∀ j (h1:j<us.toArray.size) (h2:j<ws.toArray.size),SeqAt.EqAt A s us.toArray[j] ws.toArray[j] (dA xs ys j):=λ j h1 h2=>by
 have e1:=r.length;have e2:=r'.length;have j1:j<us.length:=by simpa using h1
 have j2:j<ws.length:=by simpa using h2
 have a1:xs[j]?=some (xs[j]'(by omega)):=eI _;have a2:ys[j]?=some (ys[j]'(by omega)):=eI _
 have:dA xs ys j=eqV (xs[j]'(by omega)) (ys[j]'(by omega)):=by unfold dA;rw [a1,a2]
 rw [this,List.getElem_toArray,List.getElem_toArray];exact eqAt_V (dL r a1 (eI j1)) (dL r' a2 (eI j2)) (fL.mp fx _ (List.getElem_mem _)) (fL.mp fy _ (List.getElem_mem _))
noncomputable def rEqT (K:W.Frag):R2:=λ x y H Q=>∃ p q xs ys,x=.ref p/\y=.ref q/\SqT K H p xs/\SqT K H q ys/\xs.all bu=true/\ys.all bu=true/\Q (.bl (bJ xs ys)) H
theorem op_eqT (hu:X.A.units<cLine):OpR X (compareOp .Eq) (rEqT X.K):=by
 intro pins s σ H x y v u Q I rx ry h;obtain ⟨p,q,xs,ys,rfl,rfl,hp,hq,fx,fy,k⟩:=h
 cases rx
 cases ry;obtain ⟨us,r,pl,_⟩:=I.tuple hp;obtain ⟨ws,r',pl',_⟩:=I.tuple hq;refine SeqAt.RcAt.tuples (e:=dA xs ys) pl pl' hu (tup_eqs I r r' fx fy) X.prog X.w X.xe _ ⟨.bl _,H,I,rfl,?_⟩;rw [tup_all r.length r'.length];exact k
noncomputable def rNeT (K:W.Frag):R2:=λ x y H Q=>∃ p q xs ys,x=.ref p/\y=.ref q/\SqT K H p xs/\SqT K H q ys/\xs.all bu=true/\ys.all bu=true/\Q (.bl (!bJ xs ys)) H
theorem op_neT (hu:X.A.units<cLine):OpR X (compareOp .NotEq) (rNeT X.K):=by
 intro pins s σ H x y v u Q I rx ry h;obtain ⟨p,q,xs,ys,rfl,rfl,hp,hq,fx,fy,k⟩:=h
 cases rx
 cases ry;obtain ⟨us,r,pl,_⟩:=I.tuple hp;obtain ⟨ws,r',pl',_⟩:=I.tuple hq;refine SeqAt.RcNeAt.tuples (e:=dA xs ys) pl pl' hu (tup_eqs I r r' fx fy) X.prog X.w X.xe _ ⟨.bl _,H,I,rfl,?_⟩;rw [tup_all r.length r'.length];exact k
end
end L2
namespace L2
open PySem PySem.Spec PyProof.Rows
noncomputable def Its (z:Str):It:=⟨λ i _=>i<z.cps.size,λ i H v H'=>H'=H/\∃ c,z.cps[i]?=some c/\v=.str ⟨#[c]⟩,λ i _=>z.cps.size<=i⟩
section
variable {X:Cx}
theorem turn_str {P:Program} {w:World} {K:W.Frag} {tg:Expr} (z:Str) (t:Tok) (it:Addr):Turn P w K tg (Its z) [it] it (λ i h=>h.IsStrIter it (strIterType z) z t i) where
 mem:=by simp
 obj:=λ i h st b hb=>by
  have e:b=it:=by simpa using hb
  subst e;obtain ⟨o,e,c,d⟩:=st;exact ⟨o,e,λ v z=>by rw [d] at z;cases z⟩
 keep:=λ i h h' st k=>by
  obtain ⟨o,e,c,d⟩:=st;exact ⟨o,k it (by simp) o e,c,d⟩
 item:=by
  intro X hP hw hK hc i pins s σ H E I hf st hg;subst hP hw hK;obtain ⟨f0,f1,f2,f3,f4,f5⟩:=hf it (by simp);have hx:z.cps[i]?=some (z.cps[i]'hg):=Array.getElem?_eq_getElem hg
  have fin:∀ h',h'.IsStrIter it (strIterType z) z t (i+1)->Heap.SameBut it s.heap h'->∃ u,some (Value.str ⟨#[z.cps[i]'hg]⟩ s.toks)=some u/\
    wpAny (model X.prog X.w) X.A (letOwnedTupleGo tg (.ref it) u) (λ _ s2=>∃ x H',Inv X pins σ H' s2/\RelV x u/\(Its z).yld i H x H'/\s2.heap.IsStrIter it (strIterType z) z t (i+1)/\∀ b∈[it],H' b=none) E { s with heap:=h',toks:=s.toks+1 }:=λ h' st' sb=>by
   have I1:Inv X pins σ H { s with heap:=h',toks:=s.toks+1 }:=I.turned (t':=s.toks+1) (λ b o hb e=>(sb.2 b hb).trans e) f0 f1 f3 f4 f5;obtain ⟨o,e,c,d⟩:=id st';refine ⟨_,rfl,go_of (s:={ s with heap:=h',toks:=s.toks+1 }) e c d ?_ ⟨.str ⟨#[z.cps[i]'hg]⟩,H,I1,⟨_,rfl⟩,⟨rfl,_,hx,rfl⟩,st',λ b hb=>(hf b hb).1⟩⟩;unfold strIterType
   split <;> decide
  by_cases ha:z.cps.all (· < 128)=true
  ·have e:strIterType z = "str_ascii_iterator":=if_pos ha;rw [e] at st fin ⊢;exact wpAny_pyNext_ascii_item st hx fin
  ·have e:strIterType z = "str_iterator":=if_neg ha;rw [e] at st fin ⊢;exact wpAny_pyNext_wide_item st hx fin
 done:=by
  intro X hP hw hK hc i pins s σ H E I hf st hg;subst hP hw hK;obtain ⟨f0,f1,f2,f3,f4,f5⟩:=hf it (by simp);have hx:z.cps[i]?=none:=Array.getElem?_eq_none hg;by_cases ha:z.cps.all (· < 128)=true
  ·have e:strIterType z = "str_ascii_iterator":=if_pos ha;rw [e] at st;exact wpAny_pyNext_ascii_end (I.ok.hd hc) st hx λ h' eb=>⟨rfl,I.turned (t':=s.toks) (λ b o hb e=>eb b o hb e) f0 f1 f3 f4 f5⟩
  ·have e:strIterType z = "str_iterator":=if_neg ha;rw [e] at st;exact wpAny_pyNext_wide_end (I.ok.hd hc) st hx λ h' eb=>⟨rfl,I.turned (t':=s.toks) (λ b o hb e=>eb b o hb e) f0 f1 f3 f4 f5⟩
 self:=λ _ _ _ _ _ st h=>by
  by_cases ha:z.cps.all (· < 128)=true
  ·have e:strIterType z = "str_ascii_iterator":=if_pos ha;rw [e] at st;exact wpAny_pyIter_striter_ascii st h
  ·have e:strIterType z = "str_iterator":=if_neg ha;rw [e] at st;exact wpAny_pyIter_striter_wide st h
noncomputable def iStr (tl:TE):TI:=λ σ H R=>tl σ H λ x H1=>∃ z,x=.str z/\R (Its z) H1
theorem pi_str {tg:Expr} {l:Expr} {tl:TE} (hl:PE X l tl):PI X tg l (iStr tl):=by
 intro pins s σ H R I h;refine thn (hl pins s σ H _ I h) λ v s1 ⟨x,H1,I1,r1,q1⟩=>?_;obtain ⟨z,e,q⟩:=q1;subst e;obtain ⟨t,rfl⟩:=r1;refine wpAny_pyIter_strU ⟨_,[s1.heap.objs.size],_,_,H1,rfl,I1.kept (t':=s1.toks) (λ b o e=>eA _ e),turn_str z t s1.heap.objs.size,⟨_,eM _ rfl,rfl,rfl⟩,λ c hc=>?_,q⟩;have e:c=s1.heap.objs.size:=by simpa using hc
 subst e;exact I1.fpOk (eC _) (I1.hok.fresh (eC _))
noncomputable def rStarts:V->List V->Hp->VK->Prop:=λ x vs H Q=>∃ z y,x=.str z/\vs=[.str y]/\Q (.bl (Txt.startswith z y)) H
theorem mt_starts:MtM X "str.startswith" rStarts:=by
 intro pins s σ H x vs v us Q I rx rv h;obtain ⟨z,y,rfl,rfl,q⟩:=h;obtain ⟨t,rfl⟩:=rx;obtain ⟨u,rfl,t',rfl⟩:=rv.one;exact call_gives F.slot_str_startswith (typeIs_str _ _ _) F.entry_str_startswith (F.args_str_startswith_2 _ _) (gives_str_startswith z y t t') ⟨.bl _,H,I,rfl,q⟩
noncomputable def rPart:V->List V->Hp->VK->Prop:=λ x vs H Q=>∃ z y,x=.str z/\vs=[.str y]/\(y.length == 0)=false/\z.length<=sizeLine/\∀ p,H p=none->Q (.ref p) (upd H p (.tup [.str (Txt.partition z y).1,.str (Txt.partition z y).2.1,.str (Txt.partition z y).2.2]))
theorem mt_part:MtM X "str.partition" rPart:=by
 intro pins s σ H x vs v us Q I rx rv h;obtain ⟨z,y,rfl,rfl,hy,hz,q⟩:=h;obtain ⟨t,rfl⟩:=rx;obtain ⟨u,rfl,t',rfl⟩:=rv.one;have hf:H s.heap.objs.size=none:=I.hok.fresh (eC _)
 have fin:∀ (a b c:Str) (ta tb tc k:Tok),(a,b,c)=Txt.partition z y->EP X pins σ Q (.ref s.heap.objs.size) { s with heap:=s.heap.push { cls:=.type "tuple",data:=.seq [.str a ta,.str b tb,.str c tc].toArray },toks:=k }:=λ a b c ta tb tc k e=>by
  have q:=q _ hf;rw [<- e] at q;refine ⟨.ref s.heap.objs.size,_,I.laid (t':=k) (λ b o e=>eA _ e) (eC _) ?_,rfl,q⟩;exact ⟨zL3,[.str a ta,.str b tb,.str c tc],.cons ⟨_,rfl⟩ (.cons ⟨_,rfl⟩ (.cons ⟨_,rfl⟩ .nil)),_,eM _ rfl,rfl,_,rfl⟩
 refine call_meets F.slot_str_partition (typeIs_str _ _ _) F.entry_str_partition (F.args_str_partition_2 _ _) (meets_str_partition z y t t' hy hz) ?_;unfold Txt.partition at fin
 revert fin
 cases Builtin.Str.occurrences z y 0 z.length 1 with
 | nil=>intro fin;exact fin _ _ _ _ _ _ _ rfl
 | cons i r=>intro fin;exact fin _ _ _ _ _ _ _ rfl
theorem call_int_txt:bS X (.type "int") (λ xs H Q=>∃ z n,xs=[.str z]/\z.length<=640/\PySem.intText? z=some n/\Q (.int n) H):=by
 intro pins s σ H xs us Q I r h;obtain ⟨z,n,rfl,hl,hn,q⟩:=h;obtain ⟨u,rfl,t,rfl⟩:=cQ r;exact PySem.W.KIN.call_text hn hl ⟨.int n,H,I.tok _,⟨_,rfl⟩,q⟩
theorem pe_gs {x:Str} {i:Str} {pos:Pos} (h:∃ tk,X.mg x=some (.str i tk)) (hg:Gl X x:=by rfl) (hd:(x == ("__debug__":Str))=false:=by decide):PE X (.Name x pos) (tC (.str i)):=by
 obtain ⟨tk,h⟩:=h;exact aY hg h ⟨tk,rfl⟩ hd
theorem call_allK {K:W.Frag} (hK:X.K=K) (hh:X.A.handled=none):bS X (.builtin "all") (λ xs H Q=>∃ p bs,xs=[.ref p]/\SqL K H p ((bs:List Bool).map V.bl)/\Q (.bl (bs.all id)) H):=by
 subst hK;intro pins s σ H xs us Q I r h;obtain ⟨p,bs,rfl,hp,q⟩:=h;obtain ⟨u,rfl,rx⟩:=cQ r
 cases rx;obtain ⟨its,rv,pl,hz⟩:=I.list hp;have hl:=rv.length;rw [eB] at hl;have lt:p<s.heap.objs.size:=by obtain ⟨o,n,e,_⟩:=pl;exact eL e
 refine call_all_walk (wpAny_pyIter_list pl.isList ?_);refine ⟨s.heap.objs.size,_,_,_,_,_,λ i=>bs.getD i true,rfl,Walks.list (A:=X.A.in1) hh s.heap.objs.size p (fg lt) its.toArray,⟨⟨_,eM _ rfl,rfl,rfl⟩,pl.isList.push _⟩,λ i v s' Q' E' hP hQ=>?_,λ h' tk hk=>?_⟩
 ·have hP:its.toArray[i]?=some v:=hP;have hi:its[i]?=some v:=by simpa using hP
  have hb:bs[i]?=some (bs[i]'(by have:=(eG.mp hi).1;omega)):=eI _;have ev:=dL rv (x:=.bl _) (by rw [eN,hb];rfl) hi;have ev:v=Value.bool _:=ev;rw [ev];refine wpAny_truthy_bool ?_;have e:bs.getD i true=bs[i]'(by have:=(eG.mp hi).1;omega):=by rw [fH,hb];rfl
  rw [<- e];exact hQ
 ·have e:(List.range its.toArray.size).all (λ i=>bs.getD i true)=bs.all id:=by
   rw [eU,<- hl];rw [Bool.eq_iff_iff,fL,fL];constructor
   ·intro h b hb;obtain ⟨i,hi⟩:=fO.mp hb
    have:=h i (List.mem_range.mpr (eG.mp hi).1)
    rw [fH,hi] at this;exact this
   ·intro h i hi;rw [fH,eI (List.mem_range.mp hi)];exact h _ (List.getElem_mem _)
  rw [e]
  exact ⟨.bl _,H,I.kept (t':=tk) (λ b o hb=>hk b o (λ hm=>by
   have e:b=s.heap.objs.size:=by simpa using hm
   exact absurd (eL hb) (by rw [e];exact fw _)) (eA _ hb)),rfl,q⟩
end
section
variable {l:Addr} {k:Nat} {g:TG} {tc:TT} {te:TE} {ρ:St} {R:Hp->Prop} {H₀:Hp}
theorem compG_str {z:Str} (Pv:Nat->Hp->Prop) (h0:Pv 0 (upd H₀ l (.lst [])))
  (hs:∀ i c H,z.cps[i]?=some c->Pv i H->∀ zs:St,zs.length=k->g (.str ⟨#[c]⟩) (zs ++ ρ) H λ σ2 H2=>(∃ zs':St,zs'.length=k/\σ2=zs' ++ ρ)/\tc σ2 H2 λ b H3=>if b=true then te σ2 H3 λ y H4=>∃ ys',H4 l=some (.lst ys')/\ys'.length<sizeLine/\d9 z.cps.size Pv i (upd H4 l (.lst (ys'++[y]))) else d9 z.cps.size Pv i H3)
  (hd:∀ H,Pv z.cps.size H->R H) :
  ∃ W:Nat->Nat->Hp->Prop,(∃ m,W 0 m (upd H₀ l (.lst [])))/\∀ i m H,W i m H->
   ((Its z).stop i H/\R H)∨((Its z).go i H/\∀ x H',(Its z).yld i H x H'->∀ zs:St,zs.length=k->g x (zs ++ ρ) H' λ σ2 H2=>(∃ zs':St,zs'.length=k/\σ2=zs' ++ ρ)/\tc σ2 H2 λ b H3=>if b=true then te σ2 H3 λ y H4=>∃ ys,H4 l=some (.lst ys)/\ys.length<sizeLine/\∃ m',m'<m/\W (i+1) m' (upd H4 l (.lst (ys++[y]))) else ∃ m',m'<m/\W (i+1) m' H3):=
 compG_by (n:=z.cps.size) Pv h0 (λ i H hi p=>hi) (λ H p=>eC _) (λ i x H H' hi y p=>by
  obtain ⟨rfl,c,hc,rfl⟩:=y;exact hs i c _ hc p) hd
end
end L2
namespace L2
open PySem PySem.Spec PyProof.Rows
section
variable {X:Cx}
inductive EqD (K:W.Frag) (H:Hp):Nat->V->V->Prop
 | flat {n:Nat} {v:V} (h:bu v=true):EqD K H n v v
 | lst {n:Nat} {p q:Addr} {xs ys:List V} (hp:SqL K H p xs) (hq:SqL K H q ys) (hl:xs.length=ys.length) (h:∀ (j:Nat) (x y:V),xs[j]?=some x->ys[j]?=some y->EqD K H n x y):EqD K H (n+1) (.ref p) (.ref q)
 | tup {n:Nat} {p q:Addr} {xs ys:List V} (hp:SqT K H p xs) (hq:SqT K H q ys) (hl:xs.length=ys.length) (h:∀ (j:Nat) (x y:V),xs[j]?=some x->ys[j]?=some y->EqD K H n x y):EqD K H (n+1) (.ref p) (.ref q)
theorem cc {v:V} (h:bu v=true):eqV v v=true:=by
 cases v with
 | non=>rfl
 | bl b=>cases b <;> rfl
 | int i=>show (i == i)=true;exact beq_self_eq_true i
 | str z=>show (z == z)=true;exact beq_self_eq_true z
 | _=>exact absurd (show false=true from h) eO
end
end L2
namespace L2
open PySem PySem.Spec PyProof.Rows
section
variable {X:Cx}
theorem strs_from:∀ (k:Nat) (xs:List Str),Vals (xs.map V.str) (PySem.strsFrom k xs)
 | _,[]=>.nil
 | k,_::xs=>.cons ⟨_,rfl⟩ (strs_from (k+1) xs)
noncomputable def rSplit:V->List V->Hp->VK->Prop:=λ x vs H Q=>∃ z y,x=.str z/\vs=[.str y]/\(y.length == 0)=false/\z.length<=sizeLine/\(Txt.split z y).length<=sizeLine/\∀ p,H p=none->Q (.ref p) (upd H p (.lst ((Txt.split z y).map V.str)))
theorem mt_split:MtM X "str.split" rSplit:=by
 intro pins s σ H x vs v us Q I rx rv h;obtain ⟨z,y,rfl,rfl,hy,hz,hl,q⟩:=h;obtain ⟨t,rfl⟩:=rx;obtain ⟨u,rfl,t',rfl⟩:=rv.one;have hf:H s.heap.objs.size=none:=I.hok.fresh (eC _)
 have fin:∀ (ws:List Value) (k:Tok),Vals ((Txt.split z y).map V.str) ws->EP X pins σ Q (.ref s.heap.objs.size) { s with heap:=s.heap.push { cls:=.type "list",data:=.seq ws.toArray },toks:=k }:=λ ws k r=>
  ⟨.ref s.heap.objs.size,_,I.laid (t':=k) (λ b o e=>eA _ e) (eC _) (show ObjOk X.prog X.w _ _ _ (.lst ((Txt.split z y).map V.str)) from ⟨by rw [eB];exact hl,ws,0,r,eM _ rfl⟩),rfl,q _ hf⟩
 have e:=q;unfold Txt.split at fin hl;by_cases h1:(decide (z.length<y.length) || decide (Builtin.Str.strKind z<Builtin.Str.strKind y))=true
 ·rw [if_pos h1] at fin;exact call_meets F.slot_str_split (typeIs_str _ _ _) F.entry_str_split (F.args_str_split_2 _ _) (meets_str_split_cannot_occur z y t t' h1) (fin [.str z t] s.toks (.cons ⟨_,rfl⟩ .nil))
 ·rw [if_neg h1] at fin hl;have h1:(decide (z.length<y.length) || decide (Builtin.Str.strKind z<Builtin.Str.strKind y))=false:=by simpa using h1
  by_cases h2:(Builtin.Str.occurrences z y 0 z.length (z.length+1)).isEmpty=true
  ·rw [if_pos h2] at fin;exact call_meets F.slot_str_split (typeIs_str _ _ _) F.entry_str_split (F.args_str_split_2 _ _) (meets_str_split_not_found z y t t' h1 hy h2) (fin [.str z t] s.toks (.cons ⟨_,rfl⟩ .nil))
  ·rw [if_neg h2] at fin hl;exact call_meets F.slot_str_split (typeIs_str _ _ _) F.entry_str_split (F.args_str_split_2 _ _) (meets_str_split_sep z y t t' h1 hy (by simpa using h2) hz hl) (fin _ _ (strs_from _ _))
end
section
variable {X:Cx}
noncomputable def strE:Expr->Option Str
 | .Constant (.str x) _ _=>some x
 | _=>none
end
end L2
namespace L2
open PySem PySem.Spec PyProof.Rows
structure RoomH (k:Nat) (A:Around):Prop where
 dp:A.depth+3*k+5<recursionLimit
 un:A.units+16*k+200<cLine
structure FnOkH (P:Program) (w:World) (K:W.Frag) (mg:Str->Option Value) (base:Heap) (CX:CXT) (k:Nat) (f:Addr) (fd:FuncData) (ps:List Str) (sp:Sp):Prop where
 len:∀ vs H Q E,sp vs H Q E->vs.length=ps.length
 run:∀ (A:Around) (outer:List Env) (s:Shared) (H:Hp) (args:Args) (us:List Value) (vs:List V) (Q:VK) (E:XK),RoomH k A->Env0 P w K mg base A outer s H->BindsTo s fd args (ps.zip us)->Vals vs us->sp vs H Q E->
  codeAny (model P w) A (.call (.ref f) args) (CR CX outer P w H s Q E) s
section
variable {P:Program} {w:World} {K:W.Frag} {mg:Str->Option Value} {base:Heap}
end
section
variable {X:Cx} {CX:CXT} {k j:Nat} {f:Addr} {fd:FuncData} {ps:List Str} {sp:Sp} {dvs:List V} {ds:List Value} {E:XK} {x:Str} {p pos:Pos} {e:Expr} {es:List Expr} {t:TA}
end
end L2
namespace L2
open PySem PySem.Spec PyProof.Rows
section
variable {X:Cx}
end
end L2
namespace L2
open PySem PySem.Spec PyProof.Rows
section
variable {X:Cx}
variable {j:Nat} {m:Str} {pos apos:Pos} {e o:Expr} {es:List Expr} {ta:TE} {t:TA}
theorem px_mtD {pl:Sem Bool} (he:PE X.nox o ta) (hr:Room j X.A) (ha:PA X.nox (e::es) t) (hex:X.ex=[]:=by rfl)
  (hst:starEach (e::es) X.env=(false,eval e X.env)::starEach es X.env:=by rfl) (hpl:(backTo pos (starEach es X.env)).any (·.1)=false:=by rfl)
  (ht:eval (.Call (.Attribute o m apos) (e::es) [] pos) X.env=(do
   let ov <- eval o X.env
   standAt apos.atName
   let (f,first) <- holding [ov] (getMethod ov m pl)
   callWith pos f first (backTo pos (starEach (e::es) X.env)) (backToKw pos (keywordEach [] X.env))):=by rfl):PX X (.Call (.Attribute o m apos) (e::es) [] pos) (λ E=>tMethD X.prog X.w X.K X.mg X.base (CX1 X.prog X.w) m j E ta t):=by
 intro pins s σ H Q E I h;refine fV (pl:=pl) (fh (he pins s σ H _ (I.wish _) h) (λ u s1 ⟨x,H1,I1,rx,a,C,dx,fs,k,ps,sp,ex,ea,l,c,hj,⟨f,fd,hm,hb,F⟩,q⟩=>?_) λ _ _ z=>z.elim) ht;subst ex;obtain rfl:u=Value.ref a:=rx;refine cG I1.unwish ea c hm l ?_;refine fX (first:=[.ref a]) (h₀:=X.base) I.ok.mod.kin hm.kp (fh (ha pos pins s1 σ H1 _ I1 q) (λ us s2 ⟨vs,H2,I2,r,q2⟩=>⟨I2.kIn,?_⟩) λ _ _ z=>z.elim) hst hpl;exact run_fnX (us:=.ref a::us) (vs:=.ref a::vs) F (hr.mono hj) hb .nil hex I2.unwish (.cons rfl r) q2
end
end L2
namespace L2
open PySem PySem.Spec PyProof.Rows
section
variable {X:Cx}
noncomputable def rDPop:V->List V->Hp->VK->Prop:=λ x vs H Q=>∃ a kvs k dv,x=.ref a/\vs=[kV k,dv]/\H a=some (.dK kvs)/\(∀ v,aZ kvs k=some v->Q v (upd H a (.dK (aT kvs k))))/\(aZ kvs k=none->Q dv H)
theorem mt_dpop:MtM X "dict.pop" rDPop:=by
 intro pins s σ H x vs v us Q I rx rv h;obtain ⟨a,kvs,k,dv,rfl,rfl,ha,q1,q2⟩:=h
 cases rx
 cases rv with
 | cons r1 rr=>
  cases rr with
  | cons r2 r3=>
   cases r3
   cases e:aZ kvs k with
   | none=>exact d_popD I ha r1 e λ s' I'=>⟨dv,_,I',r2,q2 e⟩
   | some v=>exact d_pop I ha r1 e (.inr ⟨_,rfl⟩) λ w' s' I' rw'=>⟨v,_,I',rw',q1 v e⟩
end
end L2
namespace L2
open PySem PySem.Spec PyProof.Rows
section
variable {X:Cx}
theorem pa_dcons {pos:Pos} {es:List Expr} {t:TA} (hr:PA X es t):PA X (.Dict [] [] pos::es) (tCons tDNewK t):=aa bO hr rfl
theorem cX {e:Expr} {t1 t2:TE} (h1:PE X e t1) (h2:PE X e t2):PE X e (λ σ H Q=>t1 σ H Q∨t2 σ H Q):=λ pins s σ H Q I h=>h.elim (h1 pins s σ H Q I) (h2 pins s σ H Q I)
end
end L2
namespace L2
open PySem PySem.Spec PyProof.Rows
section
variable {X:Cx}
theorem Inv.turnedL {pins:List (Addr × Obj)} {σ:St} {H:Hp} {s:Shared} {h':Heap} {t':Nat} {its:List Addr} (I:Inv X pins σ H s) (k:∀ b o,b ∉ its->s.heap.get? b=some o->h'.get? b=some o) (hf:∀ b∈its,FpOk X pins H b):Inv X pins σ H { s with heap:=h',toks:=t' }:=by
 have nit:∀ b u,H b=some u->b ∉ its:=λ b u e z=>by rw [(hf b z).1] at e;cases e
 have hL:X.env.locals ∉ its:=λ z=>(hf _ z).2.1 rfl
 refine I.step (g':=s.gens) (d':=s.drawn) (ch:=its) (λ b hb=>?_) (λ b o _ _ hc e _=>k b o hc e) (λ b o _ _ hc e _=>⟨o.slots,k b o hc e⟩) (λ _ _ _ _ n=>n)
  (λ b o hc e=>⟨o,k b o hc e⟩) (λ _ _ e=>e) (λ _ _ _ e=>e) (λ b ps e=>⟨#[],by rw [e];simp⟩) (λ m hm=>?_) (λ b u e=>?_) I.bare
 ·obtain ⟨_,h1,_,h3,h4,h5⟩:=hf b hb;exact ⟨h3,h1,h4,h5⟩
 ·obtain ⟨o,es,ep,ho,r⟩:=hm;exact ⟨o,es,ep,k _ o hL ho,r⟩
 ·refine (I.hok b u e).stay (λ c v hc q=>k c v ?_ q) (λ _ q=>q) λ _ _ q=>q;rcases hc with z | z
  ·rw [z];exact nit b u e
  ·exact nit c _ z
noncomputable def Itz (K:W.Frag) (a b:Addr) (xs ys:List V):It:=
 ⟨λ i H=>SqL K H a xs/\SqL K H b ys/\i<xs.length/\i<ys.length,λ i H v H'=>∃ x y t,xs[i]?=some x/\ys[i]?=some y/\H t=none/\v=.ref t/\H'=upd H t (.tup [x,y]),λ i H=>SqL K H a xs/\SqL K H b ys/\(xs.length<=i∨ys.length<=i)⟩
theorem vals_get:∀ {xs:List V} {us:List Value},Vals xs us->∀ {i:Nat} {x:V},xs[i]?=some x->∃ u,us[i]?=some u/\RelV x u
 | _,_,.nil,i,x,e=>by simp at e
 | _,_,.cons r t,0,x,e=>by
  simp at e;subst e;exact ⟨_,rfl,r⟩
 | _,_,.cons r t,i+1,x,e=>by
  obtain ⟨u,h1,h2⟩:=vals_get t (i:=i) (x:=x) (by simpa using e);exact ⟨u,by simpa using h1,h2⟩
end
section
variable {l:Addr} {k:Nat} {g:TG} {tc:TT} {te:TE} {ρ:St} {R:Hp->Prop} {H₀:Hp}
end
end L2
namespace L2
open PySem PySem.Spec PyProof.Rows
theorem nb {x y:Nat} (h:x<y∨y<x):@Ne Addr x y:=λ e=>by have e:x=y:=e;omega
section
variable {prog:Program} {w:World} {A:Around} {E:Value->Shared->Prop} {s:Shared}
theorem tp_item {it t:Addr} {i:Nat} {us:Array Value} {x:Value} {Q:Value->Shared->Prop} (ji:s.heap.IsTupleIter it t i) (jt:s.heap.IsTuple t us) (jx:us[i]?=some x)
  (jq:∀ h',h'.IsTupleIter it t (i+1)->Heap.SameBut it s.heap h'->Q x { s with heap:=h' }):wpAny (model prog w) A (Builtin.SmallTypes.nextOf (.ref it)) Q E s:=by
 obtain ⟨oi,gi,ci,di⟩:=id ji;obtain ⟨ot,gt,_,nt,dt⟩:=jt;have ty:=ji.typeIs;unfold Builtin.SmallTypes.nextOf;refine eo (wpAny_callSpecial?_slot (name:=Str.ofString "__next__") ty F.slot_tuple_iterator_next (wpAny_call_entry F.slot_tuple_iterator_next ty F.entry_tuple_iterator_next ?_ (F.args_tuple_iterator_next_1 _)));refine eo (m:=field (.ref it) 0) (fG gi di (x:=.ref t) rfl ?_);show wpAny _ _ (ite ((Value.ref t == Value.none)=true) _ _) _ _ s;rw [if_neg (λ z:(Value.ref t == Value.none)=true=>eO z)];refine eo (m:=field (.ref it) 1) (fG gi di (x:=.int i 0) rfl (eo (m:=seqItems? (.ref t)) (wpAny_seqItems gt dt ?_)));simp only [Int.toNat_natCast,jx];refine eo (wpAny_setField gi di (by simp) (eJ ⟨x,rfl,eJ (jq _ ⟨_,Heap.get?_update_self _ gi (Obj.isFreed_of_fields (Obj.data_mapFields di _)),(Obj.cls_mapFields ..).trans ci,?_⟩ (Heap.SameBut.update ..))⟩));rw [Obj.data_mapFields di];simp [rawInt]
theorem tp_end {it t:Addr} {i:Nat} {us:Array Value} {Q:Value->Shared->Prop} (hh:A.handled=none) (ji:s.heap.IsTupleIter it t i) (jt:s.heap.IsTuple t us) (jx:us[i]?=none)
  (je:∀ h' e,Heap.ExtBut it s.heap h'->(∃ o,h'.get? e=some o/\o.cls=.type "StopIteration")->E (.ref e) { s with heap:=h' }):wpAny (model prog w) A (Builtin.SmallTypes.nextOf (.ref it)) Q E s:=by
 obtain ⟨oi,gi,ci,di⟩:=id ji;obtain ⟨ot,gt,_,nt,dt⟩:=jt;have ty:=ji.typeIs;unfold Builtin.SmallTypes.nextOf;refine eo (wpAny_callSpecial?_slot (name:=Str.ofString "__next__") ty F.slot_tuple_iterator_next (wpAny_call_entry F.slot_tuple_iterator_next ty F.entry_tuple_iterator_next ?_ (F.args_tuple_iterator_next_1 _)));refine eo (m:=field (.ref it) 0) (fG gi di (x:=.ref t) rfl ?_);show wpAny _ _ (ite ((Value.ref t == Value.none)=true) _ _) _ _ s;rw [if_neg (λ z:(Value.ref t == Value.none)=true=>eO z)];refine eo (m:=field (.ref it) 1) (fG gi di (x:=.int i 0) rfl (eo (m:=seqItems? (.ref t)) (wpAny_seqItems gt dt ?_)));simp only [Int.toNat_natCast,jx];refine eo (wpAny_rule (eo (wpAny_setField gi di (by simp) (eo (m:=newExc (.type "StopIteration") []) ?_))));simp only [newExc,newTuple];refine eo (wpAny_newObj_type (eo (m:=firstArgMember _ _) (wpAny_of_eq (a:=Value.none) (by first | rfl | (simp only [firstArgMember];rfl)) (wpAny_newObj_type ?_ (by size_fits)))) (by size_fits));simp only [raiseNew];refine eo (wpAny_handled ?_);first | rw [show A.in1.handled=none from hh] | rw [hh]
 refine eo (eJ (wpAny_throw ?_));exact je _ _ (((Heap.SameBut.update ..).extBut.push _).push _) ⟨_,eM _ rfl,rfl⟩
theorem IsTI.but {h h':Heap} {b it t:Addr} {i:Nat} (z:h.IsTupleIter it t i) (k:Heap.ExtBut b h h') (ne:it≠b):h'.IsTupleIter it t i:=by
 obtain ⟨o,e,r⟩:=z
 exact ⟨o,k _ _ ne e,r⟩
theorem IsLI.but {h h':Heap} {b it t:Addr} {i:Nat} (z:h.IsListIter it t i) (k:Heap.ExtBut b h h') (ne:it≠b):h'.IsListIter it t i:=by
 obtain ⟨o,e,r⟩:=z
 exact ⟨o,k _ _ ne e,r⟩
theorem IsL.but {h h':Heap} {b t:Addr} {us:Array Value} (z:h.IsList t us) (k:Heap.ExtBut b h h') (ne:t≠b):h'.IsList t us:=by
 obtain ⟨o,e,r⟩:=z
 exact ⟨o,k _ _ ne e,r⟩
theorem IsT.but {h h':Heap} {b t:Addr} {us:Array Value} (z:h.IsTuple t us) (k:Heap.ExtBut b h h') (ne:t≠b):h'.IsTuple t us:=by
 obtain ⟨o,e,r⟩:=z
 exact ⟨o,k _ _ ne e,r⟩
theorem zm_item {n l1 l2 k:Nat} {xs ys:Array Value} {x y a b:Value} {Q:Value->Shared->Prop} (m1:l1<n) (m2:l2<n)
  (e0:IsZip s.heap (n+4) (n+2) (n+3) .none) (e1:IsPair s.heap (n+2) (.ref n) (.ref (n+1))) (e2:IsPair s.heap (n+3) a b)
  (i1:s.heap.IsTupleIter n l1 k) (i2:s.heap.IsListIter (n+1) l2 k) (L1:s.heap.IsTuple l1 xs) (L2:s.heap.IsList l2 ys) (hx:xs[k]?=some x) (hy:ys[k]?=some y)
  (hQ:∀ h',IsZip h' (n+4) (n+2) (n+3) (rawInt s.heap.objs.size)->IsPair h' (n+3) x y->h'.IsTupleIter n l1 (k+1)->h'.IsListIter (n+1) l2 (k+1)->IsPair h' s.heap.objs.size x y->
   (∀ c o,c≠n+4->c≠n+3->c≠n->c≠n+1->s.heap.get? c=some o->h'.get? c=some o)->Q (.ref s.heap.objs.size) { s with heap:=h' }) :
  wpAny (model prog w) A (Builtin.«zip.__next__» ⟨[.ref (n+4)],[]⟩) (λ fin s'=>∃ v,fin=.done (.ret v)/\Q v s') E s:=by
 show wpAny _ _ (field (.ref (n+4)) 2 >>= _) _ _ _;refine eo (fG e0 rfl (x:=.bool false) rfl ?_);show wpAny _ _ (field (.ref (n+4)) 3 >>= _) _ _ _;refine eo (fG e0 rfl (x:=.ref (n+2)) rfl (eo (wpAny_seqItems e1 rfl ?_)));show wpAny _ _ (Builtin.SmallTypes.ownedTupleIsFree (.ref (n+4)) >>= _) _ _ _;refine eo ?_;unfold Builtin.SmallTypes.ownedTupleIsFree;refine eo (fG e0 rfl (x:=.none) rfl (eJ ?_));simp only [if_true];refine eo (wpAny_rule (eo (fG e0 rfl (x:=.ref (n+3)) rfl ?_)));refine eo (wpAny_setField_rec e0 (by simp) λ h₁ z₁ s₁=>eo ?_);replace z₁:IsZip h₁ (n+4) (n+2) (n+3) .ellipsis:=z₁;simp only [List.zipIdx_cons,List.zipIdx_nil,List.forIn_cons,List.forIn_nil];skip;refine eo (eo (wpAny_onRaise ?_));show wpAny _ _ (Builtin.SmallTypes.nextOf (.ref n) >>= _) _ _ _;refine eo (tp_item (IsTI.but i1 s₁.extBut (nb (by omega))) (IsT.but L1 s₁.extBut (nb (by omega))) hx λ h₂ j1 s₂=>eJ ?_);have t₂:IsPair h₂ (n+3) a b:=s₂.extBut _ _ (nb (by omega)) (s₁.extBut _ _ (nb (by omega)) e2);refine eo (wpAny_seqItems t₂ rfl (eo (wpAny_updateSeq_pair t₂ λ h₃ t₃ s₃=>eo (wpAny_letGo (eJ ?_)))));replace t₃:IsPair h₃ (n+3) x b:=t₃;refine eo (eo (wpAny_onRaise ?_));show wpAny _ _ (Builtin.SmallTypes.nextOf (.ref (n+1)) >>= _) _ _ _;refine eo (wpAny_nextOf_list_item (IsLI.but (IsLI.but (IsLI.but i2 s₁.extBut (nb (by omega))) s₂.extBut (nb (by omega))) s₃.extBut (nb (by omega))) (IsL.but (IsL.but (IsL.but L2 s₁.extBut (nb (by omega))) s₂.extBut (nb (by omega))) s₃.extBut (nb (by omega))) hy λ h₄ j2 s₄=>eJ ?_);have t₄:IsPair h₄ (n+3) x b:=s₄.extBut _ _ (nb (by omega)) t₃;refine eo (wpAny_seqItems t₄ rfl (eo (wpAny_updateSeq_pair t₄ λ h₅ t₅ s₅=>eo (wpAny_letGo (eJ (eJ ?_))))));replace t₅:IsPair h₅ (n+3) x y:=t₅;refine eo (wpAny_seqItems t₅ rfl (eo (wpAny_newTuple ?_)));have sz:h₅.objs.size=s.heap.objs.size:=by rw [s₅.1,s₄.1,s₃.1,s₂.1,s₁.1]
 have z₅:IsZip h₅ (n+4) (n+2) (n+3) .ellipsis:=s₅.extBut _ _ (nb (by omega)) (s₄.extBut _ _ (nb (by omega)) (s₃.extBut _ _ (nb (by omega)) (s₂.extBut _ _ (nb (by omega)) z₁)))
 have kp:∀ c o,c≠n+4->c≠n+3->c≠n->c≠n+1->s.heap.get? c=some o->h₅.get? c=some o:=λ c o c1 c2 c3 c4 e=>
  s₅.extBut _ _ c2 (s₄.extBut _ _ c4 (s₃.extBut _ _ c2 (s₂.extBut _ _ c3 (s₁.extBut _ _ c1 e))))
 have g1:h₅.IsTupleIter n l1 (k+1):=IsTI.but (IsTI.but (IsTI.but j1 s₃.extBut (nb (by omega))) s₄.extBut (nb (by omega))) s₅.extBut (nb (by omega));have g2:h₅.IsListIter (n+1) l2 (k+1):=IsLI.but j2 s₅.extBut (nb (by omega));have lt:n+4<h₅.objs.size:=eL z₅;show wpAny _ _ (Builtin.SmallTypes.ownedTupleHandOut (.ref (n+4)) (.ref h₅.objs.size) >>= _) _ _ _;refine eo ?_;unfold Builtin.SmallTypes.ownedTupleHandOut;have z₆:IsZip (h₅.push { cls:=.type "tuple",data:=.seq #[x,y] }) (n+4) (n+2) (n+3) .ellipsis:=eA _ z₅;refine eo (wpAny_setField_rec z₆ (by simp) λ h₉ z₉ s₉=>?_);replace z₉:IsZip h₉ (n+4) (n+2) (n+3) (rawInt h₅.objs.size):=z₉;refine wpAny_setField_rec z₉ (by simp) λ h₀ z₀ s₀=>?_;replace z₀:IsZip h₀ (n+4) (n+2) (n+3) (rawInt h₅.objs.size):=z₀;have up:∀ c o,c≠n+4->h₅.get? c=some o->h₀.get? c=some o:=λ c o c1 e=>s₀.extBut _ _ c1 (s₉.extBut _ _ c1 (eA _ e));have tt:IsPair h₀ h₅.objs.size x y:=s₀.extBut _ _ (Nat.ne_of_gt lt) (s₉.extBut _ _ (Nat.ne_of_gt lt) (eM _ rfl));rw [sz] at z₀ tt;refine eJ ⟨_,rfl,?_⟩;show Q (.ref h₅.objs.size) _;rw [sz];exact hQ h₀ z₀ (up _ _ (nb (by omega)) t₅) (let ⟨o,e,r⟩:=g1;⟨o,up _ o (nb (by omega)) e,r⟩) (let ⟨o,e,r⟩:=g2;⟨o,up _ o (nb (by omega)) e,r⟩) tt λ c o c1 c2 c3 c4 e=>up c o c1 (kp c o c1 c2 c3 c4 e)
theorem zm_end {n l1 l2 k:Nat} {xs ys:Array Value} {a b:Value} {Q:Fin->Shared->Prop} (hh:A.handled=none) (m1:l1<n) (m2:l2<n)
  (e0:IsZip s.heap (n+4) (n+2) (n+3) .none) (e1:IsPair s.heap (n+2) (.ref n) (.ref (n+1))) (e2:IsPair s.heap (n+3) a b)
  (i1:s.heap.IsTupleIter n l1 k) (i2:s.heap.IsListIter (n+1) l2 k) (L1:s.heap.IsTuple l1 xs) (L2:s.heap.IsList l2 ys) (hend:xs[k]?=none∨ys[k]?=none)
  (hE:∀ h' e,(∀ c o,c≠n+4->c≠n+3->c≠n->c≠n+1->s.heap.get? c=some o->h'.get? c=some o)->(∃ o,h'.get? e=some o/\o.cls=.type "StopIteration")->E (.ref e) { s with heap:=h' }) :
  wpAny (model prog w) A (Builtin.«zip.__next__» ⟨[.ref (n+4)],[]⟩) Q E s:=by
 show wpAny _ _ (field (.ref (n+4)) 2 >>= _) _ _ _;refine eo (fG e0 rfl (x:=.bool false) rfl ?_);show wpAny _ _ (field (.ref (n+4)) 3 >>= _) _ _ _;refine eo (fG e0 rfl (x:=.ref (n+2)) rfl (eo (wpAny_seqItems e1 rfl ?_)));show wpAny _ _ (Builtin.SmallTypes.ownedTupleIsFree (.ref (n+4)) >>= _) _ _ _;refine eo ?_;unfold Builtin.SmallTypes.ownedTupleIsFree;refine eo (fG e0 rfl (x:=.none) rfl (eJ ?_));simp only [if_true];refine eo (wpAny_rule (eo (fG e0 rfl (x:=.ref (n+3)) rfl ?_)));refine eo (wpAny_setField_rec e0 (by simp) λ h₁ z₁ s₁=>eo ?_);replace z₁:IsZip h₁ (n+4) (n+2) (n+3) .ellipsis:=z₁;simp only [List.zipIdx_cons,List.zipIdx_nil,List.forIn_cons,List.forIn_nil];skip;refine eo (eo (wpAny_onRaise ?_));show wpAny _ _ (Builtin.SmallTypes.nextOf (.ref n) >>= _) _ _ _
 cases hx:xs[k]? with
 | none=>
  refine eo (tp_end hh (IsTI.but i1 s₁.extBut (nb (by omega))) (IsT.but L1 s₁.extBut (nb (by omega))) hx λ h₂ e s₂ ⟨oe,hoe,hce⟩=>?_);have z₂:IsZip h₂ (n+4) (n+2) (n+3) .ellipsis:=s₂ _ _ (nb (by omega)) z₁;have ne:e≠n+4:=λ x=>by subst x;rw [z₂] at hoe;cases hoe;simp at hce
  exact wpAny_setField_rec z₂ (by simp) λ h₃ _ s₃=>hE h₃ e (λ c o c1 _ c3 _ x=>s₃.extBut _ _ c1 (s₂ _ _ c3 (s₁.extBut _ _ c1 x))) ⟨oe,s₃.extBut _ _ ne hoe,hce⟩
 | some x=>
  have hy:ys[k]?=none:=by rcases hend with h | h;rw [hx] at h;cases h;exact h
  refine eo (tp_item (IsTI.but i1 s₁.extBut (nb (by omega))) (IsT.but L1 s₁.extBut (nb (by omega))) hx λ h₂ j1 s₂=>eJ ?_);have t₂:IsPair h₂ (n+3) a b:=s₂.extBut _ _ (nb (by omega)) (s₁.extBut _ _ (nb (by omega)) e2);refine eo (wpAny_seqItems t₂ rfl (eo (wpAny_updateSeq_pair t₂ λ h₃ t₃ s₃=>eo (wpAny_letGo (eJ ?_)))));replace t₃:IsPair h₃ (n+3) x b:=t₃;refine eo (eo (wpAny_onRaise ?_));show wpAny _ _ (Builtin.SmallTypes.nextOf (.ref (n+1)) >>= _) _ _ _;refine eo (wpAny_nextOf_list_end hh (IsLI.but (IsLI.but (IsLI.but i2 s₁.extBut (nb (by omega))) s₂.extBut (nb (by omega))) s₃.extBut (nb (by omega))) (IsL.but (IsL.but (IsL.but L2 s₁.extBut (nb (by omega))) s₂.extBut (nb (by omega))) s₃.extBut (nb (by omega))) hy λ h₄ e s₄ ⟨oe,hoe,hce⟩=>?_);have z₄:IsZip h₄ (n+4) (n+2) (n+3) .ellipsis:=s₄ _ _ (nb (by omega)) (s₃.extBut _ _ (nb (by omega)) (s₂.extBut _ _ (nb (by omega)) z₁));have ne:e≠n+4:=λ x=>by subst x;rw [z₄] at hoe;cases hoe;simp at hce
  exact wpAny_setField_rec z₄ (by simp) λ h₅ _ s₅=>hE h₅ e (λ c o c1 c2 c3 c4 x=>s₅.extBut _ _ c1 (s₄ _ _ c4 (s₃.extBut _ _ c2 (s₂.extBut _ _ c3 (s₁.extBut _ _ c1 x))))) ⟨oe,s₅.extBut _ _ ne hoe,hce⟩
end
noncomputable abbrev zmh1 (h:Heap) (l1:Addr):Heap:=h.push { cls:=.type "tuple_iterator",data:=.fields #[.ref l1,.int 0 0] }
noncomputable abbrev zmh2 (h:Heap) (l1 l2:Addr):Heap:=(zmh1 h l1).push { cls:=.type "list_iterator",data:=.fields #[.ref l2,.int 0 0] }
noncomputable abbrev zmh3 (h:Heap) (l1 l2:Addr):Heap:=(zmh2 h l1 l2).push { cls:=.type "tuple",data:=.seq #[.ref h.objs.size,.ref (zmh1 h l1).objs.size] }
noncomputable abbrev zmh4 (h:Heap) (l1 l2:Addr):Heap:=(zmh3 h l1 l2).push { cls:=.type "tuple",data:=.seq #[.none,.none] }
noncomputable abbrev zmh5 (h:Heap) (l1 l2:Addr):Heap:=(zmh4 h l1 l2).push { cls:=.type "zip",data:=.fields #[.none,.bool false,.bool false,.ref (zmh2 h l1 l2).objs.size,.ref (zmh3 h l1 l2).objs.size] }
theorem zm_new (l1 l2:Addr) (xs ys:Array Value) :
  Meets (Builtin.«zip.__new__» ⟨[.type "zip",.ref l1,.ref l2],[]⟩) (λ _ R s=>s.heap.IsTuple l1 xs/\s.heap.IsList l2 ys/\
   R (.ok (.ret (.ref (zmh4 s.heap l1 l2).objs.size))) { s with heap:=zmh5 s.heap l1 l2 }):=
 .of_wp λ prog w A R s h=>by
  obtain ⟨hp,g,d,tk,os⟩:=s;obtain ⟨m1,m2,h⟩:=h;have hsub:=sub_zip;have M1:Heap.IsTuple (Shared.heap ⟨hp,g,d,tk,os⟩) l1 xs:=m1;have M2:Heap.IsList (Shared.heap ⟨zmh1 hp l1,g,d,tk,os⟩) l2 ys:=let ⟨o,e,r⟩:=m2;⟨o,eA _ e,r⟩
  wp_walk using wpAny_pyIter_tuple M1,wpAny_pyIter_list M2
  exact ⟨_,rfl,h⟩
theorem zm_call {prog:Program} {w:World} {A:Around} {E:Value->Shared->Prop} {s:Shared} {l1 l2 n:Nat} {xs ys:Array Value} {Q:Value->Shared->Prop} (hn:n=s.heap.objs.size) (hl1:s.heap.IsTuple l1 xs) (hl2:s.heap.IsList l2 ys)
  (h:∀ h',IsZip h' (n+4) (n+2) (n+3) .none->IsPair h' (n+2) (.ref n) (.ref (n+1))->IsPair h' (n+3) .none .none->h'.IsTupleIter n l1 0->h'.IsListIter (n+1) l2 0->
   (∀ c o,s.heap.get? c=some o->h'.get? c=some o)->Q (.ref (n+4)) { s with heap:=h' }) :
  wpAny (model prog w) A (call (.type "zip") [.ref l1,.ref l2]) Q E s:=by
 refine callType_new F.called_zip (by decide) (F.typeCall_zip_2 _ _) (F.newCall_zip_2 _ _) (λ obj=>F.args_object_init_3 obj _ _) F.entry_zip_new (zm_new l1 l2 xs ys) ⟨hl1,hl2,?_⟩;have q1:(zmh1 s.heap l1).objs.size=n+1:=by rw [hn];exact Heap.size_push ..
 have q2:(zmh2 s.heap l1 l2).objs.size=n+2:=by rw [Heap.size_push,q1]
 have q3:(zmh3 s.heap l1 l2).objs.size=n+3:=by rw [Heap.size_push,q2]
 have q4:(zmh4 s.heap l1 l2).objs.size=n+4:=by rw [Heap.size_push,q3]
 have pu:∀ {h:Heap} {o o':Obj} {c},h.get? c=some o->(h.push o').get? c=some o:=λ e=>eA _ e;have g5:(zmh5 s.heap l1 l2).get? (zmh4 s.heap l1 l2).objs.size=some _:=eM _ rfl;have g4:(zmh5 s.heap l1 l2).get? (zmh3 s.heap l1 l2).objs.size=some _:=pu (eM _ rfl);have g3:(zmh5 s.heap l1 l2).get? (zmh2 s.heap l1 l2).objs.size=some _:=pu (pu (eM _ rfl));have g2:(zmh5 s.heap l1 l2).get? (zmh1 s.heap l1).objs.size=some _:=pu (pu (pu (eM _ rfl)));have g1:(zmh5 s.heap l1 l2).get? s.heap.objs.size=some _:=pu (pu (pu (pu (eM _ rfl))));show _/\_;rw [q2,q3,q4] at g5;rw [q3] at g4;rw [q1,q2,<- hn] at g3;rw [q1] at g2;rw [<- hn] at g1;rw [q4];exact ⟨⟨_,g5,rfl⟩,h _ g5 g3 g4 ⟨_,g1,rfl,rfl⟩ ⟨_,g2,rfl,rfl⟩ λ c o x=>pu (pu (pu (pu (pu x))))⟩
section
variable {X:Cx}
noncomputable def Itzm (K:W.Frag) (a b:Addr) (xs ys:List V):It:=
 ⟨λ i H=>SqT K H a xs/\SqL K H b ys/\i<xs.length/\i<ys.length,λ i H v H'=>∃ x y t,xs[i]?=some x/\ys[i]?=some y/\H t=none/\v=.ref t/\H'=upd H t (.tup [x,y]),λ i H=>SqT K H a xs/\SqL K H b ys/\(xs.length<=i∨ys.length<=i)⟩
theorem turn_zm {P:Program} {w:World} {K:W.Frag} {elts:List Expr} {x1} {tpos:Pos} {n a b:Nat} (m1:a<n) (m2:b<n) (xs ys:List V) :
  Turn P w K (.Tuple elts x1 tpos) (Itzm K a b xs ys) [n+4,n+2,n+3,n,n+1] (n+4) (λ i h=>∃ p q,IsZip h (n+4) (n+2) (n+3) .none/\IsPair h (n+2) (.ref n) (.ref (n+1))/\IsPair h (n+3) p q/\h.IsTupleIter n a i/\h.IsListIter (n+1) b i) where
 mem:=by simp
 obj:=λ i h st d hd=>by
  obtain ⟨p,q,h1,h2,h3,⟨o4,e4,_,d4⟩,⟨o5,e5,_,d5⟩⟩:=st;simp only [eT,fA,or_false] at hd;rcases hd with rfl | rfl | rfl | rfl | rfl
  ·exact ⟨_,h1,λ v z=>by have z':Data.fields _=Data.cell v:=z;cases z'⟩
  ·exact ⟨_,h2,λ v z=>by have z':Data.seq _=Data.cell v:=z;cases z'⟩
  ·exact ⟨_,h3,λ v z=>by have z':Data.seq _=Data.cell v:=z;cases z'⟩
  ·exact ⟨_,e4,λ v z=>by rw [d4] at z;cases z⟩
  ·exact ⟨_,e5,λ v z=>by rw [d5] at z;cases z⟩
 keep:=λ i h h' st k=>by
  obtain ⟨p,q,h1,h2,h3,⟨o4,e4,r4⟩,⟨o5,e5,r5⟩⟩:=st;exact ⟨p,q,k _ (by simp) _ h1,k _ (by simp) _ h2,k _ (by simp) _ h3,⟨o4,k _ (by simp) _ e4,r4⟩,⟨o5,k _ (by simp) _ e5,r5⟩⟩
 item:=by
  intro X hP hw hK hc i pins s σ H E I hf st hg;subst hP hw hK;obtain ⟨ha,hb,hx,hy⟩:=hg;obtain ⟨p,q,h1,h2,h3,h4,h5⟩:=st;obtain ⟨us,ru,pu,_⟩:=I.tuple ha;obtain ⟨ws,rw',pw,_⟩:=I.list hb;have ex:xs[i]?=some xs[i]:=eI hx;have ey:ys[i]?=some ys[i]:=eI hy;obtain ⟨u,eu,rux⟩:=vals_get ru ex;obtain ⟨v,ev,rvy⟩:=vals_get rw' ey;have hT:s.TypeIs (.ref (n+4)) "zip":=⟨_,h1,rfl⟩;unfold pyNext;refine eo (wpAny_attempt (wpAny_callSpecial?_slot (name:=Str.ofString "__next__") hT F.slot_zip_next (wpAny_call_entry F.slot_zip_next hT F.entry_zip_next (zm_item m1 m2 h1 h2 h3 h4 h5 (show s.heap.IsTuple a us.toArray from pu) pw.isList (by simpa using eu) (by simpa using ev) λ h' a1 a2 a3 a4 a6 a7=>eJ ?_) (F.args_zip_next_1 _))));refine ⟨_,rfl,?_⟩;refine wpAny_letOwnedTupleGo_zip (s:={ s with heap:=h' }) a1 λ h2' z2 sb=>?_;have nt:s.heap.objs.size≠n+4:=Nat.ne_of_gt (eL h1)
  have I1:Inv X pins σ H { s with heap:=h2',toks:=s.toks }:=I.turnedL (its:=[n+4,n+2,n+3,n,n+1]) (t':=s.toks) (λ c o hc e=>by
   simp only [eT,fA,or_false,not_or] at hc;exact (sb.2 c hc.1).trans (a7 c o hc.1 hc.2.2.1 hc.2.2.2.1 hc.2.2.2.2 e)) hf
  have hn:H s.heap.objs.size=none:=I.hok.fresh (eC _);have ht2:h2'.get? s.heap.objs.size=some { cls:=.type "tuple",data:=.seq #[u,v] }:=(sb.2 _ nt).trans a6
  have hok:HOk X.prog X.w (upd H s.heap.objs.size (.tup [xs[i],ys[i]])) h2':=λ c o e=>by
   by_cases hb:c=s.heap.objs.size
   ·subst hb;rw [ac] at e
    cases e;exact ⟨zL2,[u,v],.cons rux (.cons rvy .nil),_,ht2,rfl,_,rfl⟩
   ·rw [ag hb] at e;exact (I1.hok c o e).stay (λ _ _ _ q=>q) (λ c q=>by rw [ag (ay q hn)];exact q) λ c xs q=>by rw [ag (ay q hn)];exact q
  have I2:=I1.trackI (t:=s.heap.objs.size) I.sz hn (Nat.ne_of_gt I.lt) (λ x c e z=>by
   obtain ⟨v,q⟩:=I.cell x c e;exact absurd q.lt (by rw [z];exact fw _)) (λ p hp z=>absurd (eL (I.pin p hp).1) (by rw [z];exact fw _)) hok
  have si:=λ {d l k} (z:h'.IsTupleIter d l k) (nz:d≠n+4)=>show h2'.IsTupleIter d l k by
   obtain ⟨o,e,r⟩:=z;exact ⟨o,(sb.2 _ nz).trans e,r⟩
  have sl:=λ {d l k} (z:h'.IsListIter d l k) (nz:d≠n+4)=>show h2'.IsListIter d l k by
   obtain ⟨o,e,r⟩:=z;exact ⟨o,(sb.2 _ nz).trans e,r⟩
  refine ⟨.ref s.heap.objs.size,_,I2,rfl,⟨_,_,_,ex,ey,hn,rfl,rfl⟩,⟨u,v,z2,(sb.2 _ (nb (by omega))).trans (a7 _ _ (nb (by omega)) (nb (by omega)) (nb (by omega)) (nb (by omega)) h2),(sb.2 _ (nb (by omega))).trans a2,si a3 (nb (by omega)),sl a4 (nb (by omega))⟩,λ c hc=>?_⟩
  have:c≠s.heap.objs.size:=by
   have lt:(n+4:Nat)<s.heap.objs.size:=eL h1;simp only [eT,fA,or_false] at hc;rcases hc with rfl | rfl | rfl | rfl | rfl <;> exact nb (by omega)
  rw [ag this];exact (hf c hc).1
 done:=by
  intro X hP hw hK hc i pins s σ H E I hf st hg;subst hP hw hK;obtain ⟨ha,hb,hend⟩:=hg;obtain ⟨p,q,h1,h2,h3,h4,h5⟩:=st;obtain ⟨us,ru,pu,_⟩:=I.tuple ha;obtain ⟨ws,rw',pw,_⟩:=I.list hb;have lu:=ru.length;have lw:=rw'.length;have hT:s.TypeIs (.ref (n+4)) "zip":=⟨_,h1,rfl⟩;unfold pyNext;refine eo (wpAny_attempt (wpAny_callSpecial?_slot (name:=Str.ofString "__next__") hT F.slot_zip_next (wpAny_call_entry F.slot_zip_next hT F.entry_zip_next (zm_end (I.ok.hd hc) m1 m2 h1 h2 h3 h4 h5 (show s.heap.IsTuple a us.toArray from pu) pw.isList (hend.imp (λ h=>by simp;omega) (λ h=>by simp;omega)) λ h' e hk ⟨o,ho,hc⟩=>?_) (F.args_zip_next_1 _))))
  exact eo (wpAny_isInstance (T:="StopIteration") (b:=true) ⟨o,ho,hc⟩ isSubtype_stop (eJ ⟨rfl,I.turnedL (its:=[n+4,n+2,n+3,n,n+1]) (t':=s.toks) (λ c o hc e=>by
   simp only [eT,fA,or_false,not_or] at hc;exact hk c o hc.1 hc.2.2.1 hc.2.2.2.1 hc.2.2.2.2 e) hf⟩))
 self:=λ _ _ _ _ _ st h=>by
  obtain ⟨p,q,h1,_⟩:=st;exact wpAny_pyIter_zip h1 h
noncomputable def iZipM (K:W.Frag) (ta:TA):TI:=λ σ H R=>ta σ H λ vs H1=>∃ a b xs ys,vs=[.ref a,.ref b]/\SqT K H1 a xs/\SqL K H1 b ys/\R (Itzm K a b xs ys) H1
theorem pi_zipM {elts:List Expr} {x1} {tpos:Pos} {a b:Expr} {ta:TA} {p pos:Pos} (hg:Gl X "zip") (hm:X.mg "zip"=none) (ha:PA X [a,b] ta) (hs:starEach [a,b] X.env=[(false,eval a X.env),(false,eval b X.env)]:=by rfl) (hs2:starEach [b] X.env=[(false,eval b X.env)]:=by rfl) :
  PI X (.Tuple elts x1 tpos) (.Call (.Name "zip" p) [a,b] [] pos) (iZipM X.K ta):=by
 intro pins s σ H R I h;refine Call_ (ld_blt I hg hm boot_zip (PyProof.Rows.callWith_type1 (thn (ha pos pins s σ H _ I h) λ us s1 ⟨vs,H1,I1,r1,q1⟩=>?_) (by rw [hs,hs2]) (by rw [hs2];rfl)));obtain ⟨l1,l2,xs,ys,e,h1,h2,q⟩:=q1;subst e
 cases r1 with
 | cons r rr=>
  cases rr with
  | cons r' rr=>
   cases rr
   cases r
   cases r';obtain ⟨us,ru,pu,_⟩:=I1.tuple h1;obtain ⟨ws,rw',pw,_⟩:=I1.list h2;have t1:l1<s1.heap.objs.size:=by obtain ⟨o,e,_⟩:=pu;exact eL e
   have t2:l2<s1.heap.objs.size:=by obtain ⟨o,n,e,_⟩:=pw;exact eL e
   refine zm_call rfl (show s1.heap.IsTuple l1 us.toArray from pu) pw.isList λ h' z1 z2 z3 z4 z5 z7=>?_;have I2:Inv X pins σ H1 { s1 with heap:=h' }:=I1.kept (t':=s1.toks) z7;refine wpAny_pyIter_zip z1 ⟨_,_,_,_,_,rfl,I2,turn_zm t1 t2 xs ys,⟨.none,.none,z1,z2,z3,z4,z5⟩,λ c hc=>?_,q⟩
   have hb:s1.heap.objs.size<=c:=by
    simp only [eT,fA,or_false] at hc;rcases hc with rfl | rfl | rfl | rfl | rfl <;> first | exact Nat.le_add_right _ _ | exact eC _
   exact I1.fpOk hb (I1.hok.fresh hb)
end
section
variable {l:Addr} {k:Nat} {g:TG} {tc:TT} {te:TE} {ρ:St} {R:Hp->Prop} {H₀:Hp}
theorem compG_zipM {K:W.Frag} {a b:Addr} {xs ys:List V} (Pv:Nat->Hp->Prop) (h0:Pv 0 (upd H₀ l (.lst []))) (hl:∀ i H,Pv i H->SqT K H a xs/\SqL K H b ys)
  (hs:∀ i x y t H,xs[i]?=some x->ys[i]?=some y->H t=none->Pv i H->∀ zs:St,zs.length=k->g (.ref t) (zs ++ ρ) (upd H t (.tup [x,y])) λ σ2 H2=>(∃ zs':St,zs'.length=k/\σ2=zs' ++ ρ)/\tc σ2 H2 λ b H3=>if b=true then te σ2 H3 λ y H4=>∃ ys',H4 l=some (.lst ys')/\ys'.length<sizeLine/\d9 (min xs.length ys.length) Pv i (upd H4 l (.lst (ys'++[y]))) else d9 (min xs.length ys.length) Pv i H3)
  (hd:∀ H,Pv (min xs.length ys.length) H->R H) :
  ∃ W:Nat->Nat->Hp->Prop,(∃ m,W 0 m (upd H₀ l (.lst [])))/\∀ i m H,W i m H->
   ((Itzm K a b xs ys).stop i H/\R H)∨((Itzm K a b xs ys).go i H/\∀ x H',(Itzm K a b xs ys).yld i H x H'->∀ zs:St,zs.length=k->g x (zs ++ ρ) H' λ σ2 H2=>(∃ zs':St,zs'.length=k/\σ2=zs' ++ ρ)/\tc σ2 H2 λ b H3=>if b=true then te σ2 H3 λ y H4=>∃ ys,H4 l=some (.lst ys)/\ys.length<sizeLine/\∃ m',m'<m/\W (i+1) m' (upd H4 l (.lst (ys++[y]))) else ∃ m',m'<m/\W (i+1) m' H3):=
 compG_by (n:=min xs.length ys.length) Pv h0 (λ i H hi p=>⟨(hl i H p).1,(hl i H p).2,by omega,by omega⟩) (λ H p=>⟨(hl _ H p).1,(hl _ H p).2,by omega⟩) (λ i x H H' hi y p=>by
  obtain ⟨x',y',t,hx,hy,ht,ev,eh⟩:=y;subst ev eh;exact hs i x' y' t _ hx hy ht p) hd
end
end L2
namespace L2
open PySem PySem.Spec PyProof.Rows
noncomputable def KTup (K:W.Frag) (ss:List Str) (v:Value):Prop:=∃ (t:Addr) (o:Obj) (its:Array Value) (n:Nat),v=.ref t/\K.lookup t=some o/\o.cls=.type "tuple"/\o.data=.seq its n/\its.size<=sizeLine/\Vals (ss.map V.str) its.toList
noncomputable def KTb (K:W.Frag) (mg:Str->Option Value) (x:Str) (D:List (Str × List Str)):Prop:=∃ (f:Addr) (o:Obj) (es:Array DictEntry) (ep:Nat),mg x=some (.ref f)/\(f == sysModules)=false/\K.lookup f=some o/\o.ExactDict/\o.data=.dict es ep/\KTD.Rows (KTup K) es.toList D
section
variable {prog:Program} {w:World} {A:Around} {E:Value->Shared->Prop} {s:Shared}
theorem dict_rows {δ:Type} {R:δ->Value->Prop} {D:List (Str × δ)} {a:Addr} {o:Obj} {es:Array DictEntry} {ep:Nat} {z:Str} {tk:Tok} {Q:Option Value->Shared->Prop} (ho:s.heap.get? a=some o) (hd:o.data=.dict es ep) (hr:KTD.Rows R es.toList D)
  (hq:∀ r,(∀ d,KTD.datumAt z D=some d->∃ v,r=some v/\R d v)->(KTD.datumAt z D=none->r=none)->Q r { s with toks:=s.toks+1 }):wpAny (model prog w) A (dictGet a (.str z tk)) Q E s:=by
 have al:(es.all λ e=>isExactStrKey e.key)=true:=by
  have:=hr.exact
  rwa [<- Array.all_toList]
 have q2:Q (findBy (λ k v=>v.isStr k) es z) { s with toks:=s.toks+1 }:=by
  have ef:findBy (λ k v=>v.isStr k) es z=(es.toList.find? λ e=>e.key.isStr z).map (·.val):=by
   obtain ⟨l⟩:=es;simp [findBy]
  rw [ef];refine hq _ (λ d e=>?_) λ e=>hr.find_none e;obtain ⟨v,e1,e2⟩:=hr.find_some e;exact ⟨v,e1,e2⟩
 unfold dictGet
 (try with_reducible refine wpAny_holding ?_)
 refine eo (wpAny_pyHash_str (eo (KTD.kt_dictFind_strs (s:={ s with toks:=s.toks+1 }) ho hd al ?_)));rw [findBy_of_findIdx?] at q2
 revert q2
 cases es.findIdx? λ e=>e.key.isStr z with
 | none=>exact λ q2=>eJ q2
 | some i=>exact λ q2=>eo (wpAny_dictEntries (s:={ s with toks:=s.toks+1 }) ho hd (eJ q2))
theorem meets_rows {δ:Type} {R:δ->Value->Prop} {D:List (Str × δ)} {a:Addr} {z:Str} {tk:Tok} (hs:(a == sysModules)=false) :
  MeetsIn prog w (Builtin.«dict.get» ⟨[.ref a,.str z tk],[]⟩) (λ _ R' s=>(∃ o es ep,s.heap.get? a=some o/\o.data=.dict es ep/\KTD.Rows R es.toList D)/\∀ v,(∀ d,KTD.datumAt z D=some d->R d v)->(KTD.datumAt z D=none->v=.none)->R' (.ok (.ret v)) { s with toks:=s.toks+1 }):=
 .of_wp λ A R' s ⟨⟨o,es,ep,ho,hd,hr⟩,h⟩=>by
  show wpAny _ _ (dictGet a (.str z tk) >>= _) _ _ s;refine eo (dict_rows ho hd hr λ r h1 h2=>?_)
  cases r with
  | some v=>exact eJ ⟨v,rfl,h v (λ d e=>by obtain ⟨v',e1,e2⟩:=h1 d e;cases e1;exact e2) λ e=>by cases h2 e⟩
  | none=>
   show wpAny _ _ (Builtin.Dict.missed a (.str z tk) >>= _) _ _ _;exact eo (wpAny_missed_other hs (eJ ⟨.none,rfl,h .none (λ d e=>by obtain ⟨v',e1,e2⟩:=h1 d e;cases e1) λ _=>rfl⟩))
end
noncomputable def tKGet (K:W.Frag) (D:List (Str × List Str)) (ty:TE):TE:=λ σ H Q=>ty σ H λ y H1=>∃ z,y=.str z/\(∀ ss t,KTD.datumAt z D=some ss->(∀ H',SqT K H' t (ss.map V.str))->Q (.ref t) H1)/\(KTD.datumAt z D=none->Q .non H1)
section
variable {X:Cx}
theorem pe_kget {x:Str} {D:List (Str × List Str)} {e:Expr} {np apos cpos:Pos} {ty:TE} (hT:KTb X.K X.mg x D) (he:PE X e ty) (m:M1 X (.Name x np) "get" apos e cpos) (hg:Gl X x:=by rfl) (hdb:(x == ("__debug__":Str))=false:=by decide) :
  PE X (.Call (.Attribute (.Name x np) "get" apos) [e] [] cpos) (tKGet X.K D ty):=by
 intro pins s σ H Q I h;obtain ⟨f,o,es,ep,hm,hs,hk,hx,hdt,rows⟩:=hT;refine wpAny_Call_method m.base m.few m.line fR PySem.F.slot_dict_get PySem.F.type_dict_get (bx I hg hm ?_ hdb);refine ⟨⟨o,I.kIn _ _ hk,hx.1⟩,λ b q=>by cases q;exact ⟨o,I.kIn _ _ hk,hx.2.1⟩,?_⟩;rw [m.trees];refine Calls.callWith_builtin rfl (Calls.evalArgs_plain (Calls.spliced_cons (thn (he pins s σ H _ I h) λ iv s2 ⟨y,H2,I2,ry,z,ez,h1,h2⟩=>Calls.spliced_nil ?_)));subst ez;obtain ⟨tk,rfl⟩:=ry;have ho:=I2.kIn _ _ hk;refine call_meetsIn PySem.F.slot_dict_get ⟨o,ho,hx.1⟩ PySem.F.entry_dict_get (PySem.F.args_dict_get_2 _ _) (meets_rows (R:=KTup X.K) (D:=D) hs) ⟨⟨o,es,ep,ho,hdt,rows⟩,λ v g1 g2=>?_⟩
 cases e:KTD.datumAt z D with
 | some ss=>
  obtain ⟨t,ot,its,n,rfl,r⟩:=g1 ss e;exact ⟨.ref t,H2,I2.tok _,rfl,h1 ss t e λ H'=>.inr ⟨ot,its,n,r⟩⟩
 | none=>
  rw [g2 e];exact ⟨.non,H2,I2.tok _,rfl,h2 e⟩
theorem psx_ret {e:Expr} {pos:Pos} {te:XK->TE} (he:PX X e te):PSx X (.Return (some e) pos) (λ E=>tRet (te E)):=by
 intro pins s σ H D E I h;exact wpAny_Return_some (thn (he pins s σ H _ E I h) λ v s1 ⟨x,H1,I1,r1,q1⟩=>⟨x,σ,H1,I1,r1,q1⟩)
theorem pe_mk0 {CX:CXT} {C:Addr} {k j:Nat} {ps:List Str} {dvs:List V} {sp:Sp} {E:XK} {x:Str} {p pos:Pos} (F:MkB X.prog X.w X.K X.mg X.base CX C k ps dvs sp) (hr:Room j X.A) (hm:X.mg x=some (.ref C)) (hx:bw CX X E) (hj:k+1<=j:=by decide) (hg:Gl X x:=by rfl) (hdb:(x == ("__debug__":Str))=false:=by decide) :
  PE X (.Call (.Name x p) [] [] pos) (tMake C sp dvs E tNil):=by
 obtain ⟨f,fd,ds,a,b,c,d⟩:=F;exact pe_make0 a d (hr.mono hj) hg hm b c hx hdb
end
end L2
namespace L2
open PySem PySem.Spec PyProof.Rows
section
variable {X:Cx}
noncomputable def ViewI (v d:Addr):HO:=.ext λ h=>h.IsItemsView v d
noncomputable def rItemsV:V->List V->Hp->VK->Prop:=λ x vs H Q=>∃ a kvs,x=.ref a/\vs=[]/\Rd H a (.dK kvs)/\∀ v,H v=none->Q (.ref v) (upd H v (ViewI v a))
theorem mt_itemsV:MtM X "dict.items" rItemsV:=by
 intro pins s σ H x vs v us Q I rx rv h;obtain ⟨a,kvs,rfl,rfl,ha,q⟩:=h
 cases rx
 cases rv;obtain ⟨hz,hs,ws,kv,hD⟩:=cL I.hok ha;refine call_meetsIn PySem.F.slot_dict_items hD.typeIs PySem.F.entry_dict_items (PySem.F.args_dict_items_1 _) (meets_dict_items (aR X.prog X.w) a hs) ⟨⟨ws,hD⟩,?_⟩;have e:(s.heap.push { cls:=.type "dict_items",data:=.fields #[.ref a] }).get? s.heap.objs.size=some { cls:=.type "dict_items",data:=.fields #[.ref a] }:=eM _ rfl;refine ⟨.ref s.heap.objs.size,_,I.laid (t':=s.toks) (λ b o e=>eA _ e) (eC _) (show ObjOk X.prog X.w _ _ _ (ViewI _ a) from ⟨⟨_,e,rfl,rfl⟩,⟨_,e⟩,λ h1 h2 z k=>?_⟩),rfl,q _ (I.hok.fresh (eC _))⟩;obtain ⟨o,ho,c⟩:=z;exact ⟨o,k _ ho,c⟩
theorem tracks {pins:List (Addr × Obj)} {σ:St} {s:Shared} {N:Nat} (h0:X.s₀.heap.objs.size<=N) (hL:X.env.locals<N) (hc:∀ x c,X.env.cells.lookup x=some c->c<N) (hp:∀ p∈X.pn++pins,p.1<N) :
  ∀ (L:List (Addr × List V)) (H:Hp),Inv X pins σ H s->(∀ p∈L,H p.1=none/\N<=p.1/\∀ H',ObjOk X.prog X.w H' s.heap p.1 (.tup p.2))->(L.map (·.1)).Nodup->
   ∃ H',Inv X pins σ H' s/\(∀ p∈L,H' p.1=some (.tup p.2))/\∀ b,b ∉ L.map (·.1)->H' b=H b
 | [],H,I,_,_=>⟨H,I,λ _ h=>absurd h fA,λ _ _=>rfl⟩
 | p::L,H,I,h,nd=>by
  obtain ⟨n1,n2⟩:=List.nodup_cons.mp (show (p.1::L.map (·.1)).Nodup from nd);obtain ⟨e1,e2,e3⟩:=h p eY;have e2':N<=p.1:=e2
  have I1:Inv X pins σ (upd H p.1 (.tup p.2)) s:=I.trackI (eQ h0 e2) e1 (λ z=>fw N (eS (z ▸ e2') hL)) (λ x c q z=>fw N (eS (z ▸ e2') (hc x c q))) (λ q hq z=>fw N (eS (z ▸ e2') (hp q hq))) λ c o e=>by
   by_cases hb:c=p.1
   ·subst hb;rw [ac] at e
    cases e;exact e3 _
   ·rw [ag hb] at e;exact (I.hok c o e).stay (λ _ _ _ q=>q) (λ c q=>by rw [ag (ay q e1)];exact q) λ c xs q=>by rw [ag (ay q e1)];exact q
  obtain ⟨H',J,k1,k2⟩:=tracks h0 hL hc hp L _ I1 (λ q hq=>by
   obtain ⟨f1,f2,f3⟩:=h q (eW _ hq);refine ⟨?_,f2,f3⟩;rw [ag λ z=>n1 (by rw [<- z];exact eX.mpr ⟨q,hq,rfl⟩)];exact f1) n2
  refine ⟨H',J,λ q hq=>?_,λ b hb=>?_⟩
  ·rcases eT.mp hq with rfl | hq
   ·rw [k2 _ n1,ac]
   ·exact k1 q hq
  ·have hb:¬ (b=p.1∨b∈L.map (·.1)):=λ z=>hb (eT.mpr z);rw [k2 b λ z=>hb (.inr z),ag λ z=>hb (.inl z)]
theorem vals_refs:∀ as:List Addr,Vals (as.map V.ref) (as.map Value.ref)
 | []=>.nil
 | _::as=>.cons rfl (vals_refs as)
theorem call_list_items (hh:X.A.handled=none):bS X (.type "list") (λ xs H Q=>∃ v a kvs,xs=[.ref v]/\H v=some (ViewI v a)/\Rd H a (.dK kvs)/\∀ l H' ts,H l=none->Same H H'->H' l=some (.lst ts)->ts.length=kvs.length->(∀ (j:Nat) (t:V) (kv:Key × V),ts[j]?=some t->kvs[j]?=some kv->∃ q,t=.ref q/\H' q=some (.tup [kV kv.1,kv.2]))->Q (.ref l) H'):=by
 intro pins s σ H xs us Q I r h;obtain ⟨v,p,kvs,rfl,hv,hp,q⟩:=h;obtain ⟨u,rfl,rx⟩:=cQ r
 cases rx;obtain ⟨hz,hs,vs,kv,hD⟩:=cL I.hok hp;obtain ⟨ep,hat⟩:=hD.dictAt;obtain ⟨hview,_⟩:=(show ObjOk X.prog X.w H s.heap v (ViewI v p) from I.hok v _ hv);have el:=kv.length;have hz':vs.length<=sizeLine:=by rw [<- el];exact hz
 refine PySem.W.kdx_call (knd:=aR X.prog X.w) (kvs:=vs) (ep:=ep) hh hview hat hz' λ h' tk acc c as hk hD' hl hG hacc=>?_;have fr:H s.heap.objs.size=none:=I.hok.fresh (eC _);have la:as.length=kvs.length:=by rw [hl,el]
 have I1:Inv X pins σ (upd H s.heap.objs.size (.lst (as.map V.ref))) { s with heap:=h',toks:=tk }:=I.laid (t':=tk) hk (eC _) (show ObjOk X.prog X.w _ h' _ (.lst (as.map V.ref)) from ⟨by rw [eB,la];exact hz,acc.toList,c,by rw [hacc];exact vals_refs as,by simpa using hD'⟩);have ndA:as.Nodup:=hG.rise.imp λ h=>fg h
 have mz:((as.zip kvs).map λ z=>(z.1,[kV z.2.1,z.2.2])).map (·.1)=as:=by
  rw [ft];show (as.zip kvs).map (·.1)=as;exact List.map_fst_zip (by omega)
 obtain ⟨H',J,k1,k2⟩:=tracks (N:=s.heap.objs.size) I.sz I.lt (λ x c e=>by obtain ⟨v,q⟩:=I.cell x c e;exact q.lt) (λ p hp=>eL (I.pin p hp).1) ((as.zip kvs).map λ z=>(z.1,[kV z.2.1,z.2.2])) _ I1 (λ z hz=>by
  obtain ⟨y,hy,rfl⟩:=eX.mp hz;obtain ⟨j,hj⟩:=fO.mp hy;obtain ⟨a1,a2⟩:=List.getElem?_zip_eq_some.mp hj;obtain ⟨key,k,x,g1,g2,g3⟩:=hG.pairs j _ a1;obtain ⟨v',hv',rv⟩:=KV.get kv a2;rw [hv'] at g1
  cases g1;have ab:=hG.above _ (fk a1);refine ⟨?_,Nat.le_of_lt ab,λ H'=>⟨zL2,[key,x],.cons (is_kV g2) (.cons rv .nil),_,g3,rfl,_,rfl⟩⟩;show upd H s.heap.objs.size _ y.1=none;rw [ag (Nat.ne_of_gt ab)];exact I.hok.fresh (Nat.le_of_lt ab)) (by rw [mz];exact ndA)
 rw [mz] at k2;have nin:∀ b:Nat,b<=s.heap.objs.size->b ∉ as:=λ b hb z=>fw _ (eS hb (hG.above b z));refine ⟨.ref s.heap.objs.size,H',J,rfl,q _ H' (as.map V.ref) fr (λ b o e=>?_) ?_ (by rw [eB,la]) λ j t y ht hy=>?_⟩
 ·have lt:b<s.heap.objs.size:=(I.hok b o e).lt;rw [k2 b (nin b (Nat.le_of_lt lt)),ag (fg lt)];exact e
 ·rw [k2 _ (nin _ (eC _)),ac]
 ·rw [eN] at ht
  cases e:as[j]? with
  | none=>rw [e] at ht;cases ht
  | some x=>
   rw [e] at ht
   cases ht;exact ⟨x,rfl,k1 (x,[kV y.1,y.2]) (eX.mpr ⟨(x,y),fk (List.getElem?_zip_eq_some.mpr ⟨e,hy⟩),rfl⟩)⟩
end
end L2
namespace G
noncomputable def gcd (a b:Int):Int:=(Int.gcd a b:Int)
theorem gcd_zero (a:Int) (h:0<=a):gcd a 0=a:=by
 unfold gcd;rw [Int.gcd_zero_right];omega
theorem gcd_abs (a b:Int):gcd (if a<0 then -a else a) (if b<0 then -b else b)=gcd a b:=by
 unfold gcd;congr 1
 split <;> split <;> simp [Int.neg_gcd,Int.gcd_neg]
theorem gcd_step (a b:Int) (hb:0<b):gcd b (a % b)=gcd a b:=by
 unfold gcd;congr 1;rw [Int.gcd_comm b];have e:a=a % b+(a / b)*b:=by have:=Int.emod_add_mul_ediv a b;rw [Int.mul_comm] at this;omega
 have h:=Int.gcd_add_mul_right_left b (a % b) (a / b);rw [<- e] at h;exact h.symm
theorem den_pos (x:Rat):(0:Int)<(x.den:Int):=by have:=x.den_nz;omega
theorem init_spec (a b:Int) (hb:b≠0):a.fdiv (if b<0 then -(gcd a b) else gcd a b)=(Rat.divInt a b).num/\b.fdiv (if b<0 then -(gcd a b) else gcd a b)=((Rat.divInt a b).den:Int):=by
 have gp:0<Int.gcd a b:=Int.gcd_pos_of_ne_zero_right a hb;obtain ⟨k,hk⟩:=Int.gcd_dvd_left a b;obtain ⟨m,hm⟩:=Int.gcd_dvd_right a b;have gz:(Int.gcd a b:Int)≠0:=by omega
 rw [Rat.num_divInt,Rat.den_divInt,if_neg hb,Int.gcd_comm b a];unfold gcd;generalize hgg:Int.gcd a b=g at *;have e1:∀ z:Int,(g*z).fdiv g=z:=λ z=>by rw [Int.mul_comm,Int.mul_fdiv_cancel _ gz]
 have e2:∀ z:Int,(g*z).fdiv (-(g:Int)) = -z:=λ z=>by
  have:(g:Int)*z=(-z)*(-(g:Int)):=by rw [Int.neg_mul_neg,Int.mul_comm]
  rw [this,Int.mul_fdiv_cancel _ (by omega)]
 by_cases hs:b<0
 ·rw [if_pos hs,Int.sign_eq_neg_one_of_neg hs];constructor
  ·conv=>lhs;rw [hk,e2]
   have:-1*a = -k*g:=by rw [hk,Int.mul_comm (g:Int) k,Int.neg_mul,Int.neg_mul,Int.one_mul]
   rw [this,Int.mul_ediv_cancel _ gz]
  ·conv=>lhs;rw [hm,e2]
   have mneg:m<0:=by
    rcases Int.lt_trichotomy m 0 with h | h | h
    ·exact h
    ·rw [h] at hm;omega
    ·have:=Int.mul_pos (show (0:Int)<g by omega) h;omega
   have:b.natAbs=m.natAbs*g:=by rw [hm,Int.natAbs_mul,Int.natAbs_natCast,Nat.mul_comm]
   rw [this,Nat.mul_div_cancel _ gp];omega
 ·rw [if_neg hs,Int.sign_eq_one_of_pos (by omega)];constructor
  ·conv=>lhs;rw [hk,e1]
   have:1*a=k*g:=by rw [hk,Int.mul_comm (g:Int) k,Int.one_mul]
   rw [this,Int.mul_ediv_cancel _ gz]
  ·conv=>lhs;rw [hm,e1]
   have mpos:0<m:=by
    rcases Int.lt_trichotomy m 0 with h | h | h
    ·have:=Int.mul_neg_of_pos_of_neg (show (0:Int)<g by omega) h;omega
    ·rw [h] at hm;omega
    ·exact h
   have:b.natAbs=m.natAbs*g:=by rw [hm,Int.natAbs_mul,Int.natAbs_natCast,Nat.mul_comm]
   rw [this,Nat.mul_div_cancel _ gp];omega
end G
namespace G
noncomputable def Bd (n:Nat) (x:Rat):Prop:=x.num.natAbs<=2 ^ n/\x.den<=2 ^ n
end G
namespace G
end G
namespace G
open PySem
noncomputable def sgs:Str:="abcdefghijklmnopqrstuvwxyz0123456789."
noncomputable def sgAt (i:Int):Nat:=sgs.cps.toList.getD i.toNat 0
noncomputable def turnK (k c:Int):Int:=(k*(1+c / 5 % 36)+c / 180) % 37
end G
namespace G
noncomputable def Cop (a b:Int):Prop:=∀ d:Int,d∣a->d∣b->d∣1
end G
namespace G
open PySem L2
noncomputable def cg (ks:List Str) (n:Str):List Str:=if n∈ks then ks else ks++[n]
theorem mem_addK {ks:List Str} {n m:Str}:m∈cg ks n↔m∈ks∨m=n:=by
 unfold cg
 split
 ·exact ⟨.inl,λ h=>h.elim id λ e=>by rw [e];assumption⟩
 ·simp
theorem dG {ks:List Str} {n:Str} (h:ks.Nodup):(cg ks n).Nodup:=by
 unfold cg
 split
 ·exact h
 ·rename_i hn;exact List.nodup_append.mpr ⟨h,by simp,λ x hx y hy e=>hn (by rw [List.mem_singleton.mp hy] at e;rw [<- e];exact hx)⟩
noncomputable def upf {α:Type} (f:Str->α) (n:Str) (y:α):Str->α:=λ m=>if m=n then y else f m
theorem bZ {α:Type} {f:Str->α} {n:Str} {y:α}:upf f n y n=y:=if_pos rfl
theorem dC {α:Type} {f:Str->α} {n m:Str} {y:α} (h:m≠n):upf f n y m=f m:=if_neg h
structure Tab {α:Type} (R:Hp->V->α->Prop) (H:Hp) (kvs:List (Key × V)) (ks:List Str) (f:Str->α):Prop where
 keys:kvs.map (·.1)=ks.map (λ n=>(Sum.inr n:Key))
 vals:∀ n∈ks,∃ v,aZ kvs (Sum.inr n:Key)=some v/\R H v (f n)
section
variable {α:Type} {R:Hp->V->α->Prop} {H H':Hp} {kvs:List (Key × V)} {ks:List Str} {f:Str->α} {n:Str} {v:V} {y:α}
theorem Tab.mono (t:Tab R H kvs ks f) (h:∀ v x,R H v x->R H' v x):Tab R H' kvs ks f:=⟨t.keys,λ n hn=>let ⟨v,e,r⟩:=t.vals n hn;⟨v,e,h _ _ r⟩⟩
theorem Tab.nil:Tab R H [] [] f:=⟨rfl,λ n h=>absurd h fA⟩
theorem inr_in {n:Str} {ks:List Str}:(Sum.inr n:Key)∈ks.map (λ n=>(Sum.inr n:Key))↔n∈ks:=by
 constructor
 ·intro h;obtain ⟨y,hy,e⟩:=eX.mp h;rw [<- Sum.inr.inj e];exact hy
 ·exact λ h=>eX.mpr ⟨n,h,rfl⟩
theorem Tab.none (t:Tab R H kvs ks f) (h:¬ n∈ks):aZ kvs (Sum.inr n:Key)=none:=by
 cases e:aZ kvs (Sum.inr n:Key) with
 | none=>rfl
 | some v=>
  have:=valV_in e
  rw [t.keys] at this;exact absurd (inr_in.mp this) h
theorem Tab.len (t:Tab R H kvs ks f):kvs.length=ks.length:=by have:=fv List.length t.keys;rwa [eB,eB] at this
theorem Tab.put (t:Tab R H kvs ks f) (r:R H v y):Tab R H (aJ kvs (Sum.inr n:Key) v) (cg ks n) (upf f n y):=by
 refine ⟨?_,λ m hm=>?_⟩
 ·by_cases hn:n∈ks
  ·obtain ⟨u,e,_⟩:=t.vals n hn;unfold aJ cg;rw [bL,e,if_pos (show (some u).isSome=true from rfl),if_pos hn,<- t.keys,ft];refine List.map_congr_left λ kv _=>?_;show (if kv.1=_ then _ else _:Key × V).1=kv.1
   split <;> rfl
  ·rw [putK_new _ (t.none hn)];unfold cg;rw [if_neg hn,fo,fo,t.keys];rfl
 ·rw [valV_put];by_cases e:m=n
  ·subst e;rw [if_pos rfl,bZ];exact ⟨v,rfl,r⟩
  ·rw [if_neg λ z=>e (Sum.inr.inj z),dC e];exact t.vals m ((mem_addK.mp hm).resolve_right e)
theorem val_idx {κ:Type} [DecidableEq κ]:∀ {kvs:List (κ × V)} {i:Nat} {kv:κ × V},(kvs.map (·.1)).Nodup->kvs[i]?=some kv->aZ kvs kv.1=some kv.2
 | [],_,_,_,e=>by simp at e
 | p::r,0,kv,_,e=>by
  simp at e;subst e;exact aX rfl
 | p::r,i+1,kv,nd,e=>by
  have e:r[i]?=some kv:=by simpa using e
  obtain ⟨h1,h2⟩:=List.nodup_cons.mp (show (p.1::r.map (·.1)).Nodup from nd);rw [aV λ z=>h1 (by rw [z];exact eX.mpr ⟨kv,fk e,rfl⟩)];exact val_idx h2 e
theorem Tab.at_ {i:Nat} {kv:Key × V} (t:Tab R H kvs ks f) (nd:ks.Nodup) (e:kvs[i]?=some kv):∃ n,ks[i]?=some n/\kv.1=Sum.inr n/\aZ kvs (Sum.inr n:Key)=some kv.2/\R H kv.2 (f n):=by
 have hi:i<ks.length:=by rw [<- t.len];exact (eG.mp e).1
 have e1:kv.1=Sum.inr ks[i]:=by
  have g:=fv (λ l=>l[i]?) t.keys;simp only [eN,e,eI hi,fJ] at g;exact eZ g
 have nd2:(kvs.map (·.1)).Nodup:=by
  rw [t.keys];exact nd.map _ (λ u v h e=>h (Sum.inr.inj e))
 have ev:=val_idx nd2 e;rw [e1] at ev;obtain ⟨v,e2,r⟩:=t.vals _ (List.getElem_mem hi);rw [ev] at e2
 cases e2;exact ⟨ks[i],eI hi,e1,ev,r⟩
end
theorem addK_new {ks:List Str} {n:Str} (h:¬ n∈ks):cg ks n=ks++[n]:=if_neg h
noncomputable def KeepD (H H':Hp):Prop:=∀ b ob,H b=some ob->(∀ kvs,ob≠.dK kvs)->(∀ o u,ob≠.frz o u)->H' b=some ob
theorem KeepD.put {H:Hp} {d:Addr} {kvs:List (Key × V)} {o:HO} (hd:H d=some (.dK kvs)):KeepD H (upd H d o):=λ b ob e h1 _=>by
 have:b≠d:=λ z=>by rw [z,hd] at e;exact h1 kvs (eZ e).symm
 rw [ag this];exact e
end G
namespace G
open PySem
theorem dO {x y:Str} (h:x.cps.toList=y.cps.toList):x=y:=by
 cases x with
 | mk a=>
  cases y with
  | mk b=>
   have:a=b:=Array.toList_inj.mp h
   rw [this]
noncomputable def dg (m:Nat):List Nat:=(Nat.toDigits 10 m).map Char.toNat
noncomputable def txt (i:Int):Str:=Str.ofString (toString i)
theorem df {m c:Nat} (h:c∈dg m):48<=c/\c<=57:=by
 obtain ⟨ch,hch,e⟩:=eX.mp h;rw [<- e];exact PyProof.Rows.digit_range (Nat.isDigit_of_mem_toDigits (by decide) (by decide) hch)
theorem bW (m:Nat):(txt (m:Int)).cps.toList=dg m:=PySem.W.KIN.signs_num m
theorem txt_neg (m:Nat):(txt (Int.negSucc m)).cps.toList=45::dg (m+1):=by
 have e:toString (Int.negSucc m) = "-" ++ toString ((m+1:Nat)):=rfl;unfold txt;rw [e,PyProof.Rows.signs_ofString,String.toList_append,fo]
 have:=bW (m+1)
 unfold txt at this;rw [PyProof.Rows.signs_ofString] at this;rw [<- this];rfl
theorem dg_len (m:Nat) (h:m<10 ^ 9):1<=(dg m).length/\(dg m).length<=9:=by
 constructor
 ·unfold dg;rw [eB]
  have:=PySem.W.KIN.val_back m
  cases e:Nat.toDigits 10 m with
  | nil=>
   have h2:=PySem.toDigits_len_ge 10 m;rw [e] at h2;exact absurd h2 (by decide)
  | cons a r=>simp
 ·have h1:=PyProof.Rows.toString_length_le (v:=(m:Int)) (by omega) (k:=9) (by decide) (by omega);have h2:=bW m;rw [<- h2];exact h1
theorem dg_int {z:Str} {m:Nat} (h:z.cps.toList=dg m) (hm:m<10 ^ 9):intText? z=some (m:Int):=by
 have:z=txt (m:Int):=dO (by rw [h,bW])
 rw [this]
 exact PySem.W.KIN.num_reads (by omega) (by
  have e1:(10:Int) ^ 10=10000000000:=by decide
  have e2:(10:Nat) ^ 9=1000000000:=by decide
  rw [e1];rw [e2] at hm;omega)
theorem part_none {z:Str} (h:¬ 47∈z.cps.toList):Txt.partition z ⟨#[47]⟩=(z,Str.empty,Str.empty):=by
 have f:=StrLaws.found_one z 47;rw [eD h] at f;unfold Txt.partition
 cases e:Builtin.Str.occurrences z ⟨#[47]⟩ 0 z.length 1 with
 | nil=>rfl
 | cons i r=>rw [e] at f;simp at f
theorem part_one {z:Str} {A B:List Nat} (h:z.cps.toList=A++47::B) (hA:¬ 47∈A) (hB:¬ 47∈B):Txt.partition z ⟨#[47]⟩=(⟨A.toArray⟩,⟨#[47]⟩,⟨B.toArray⟩):=by
 have f:=StrLaws.found_one z 47;rw [eK (by rw [h];simp)] at f;have ch:=StrLaws.occ_chain z ⟨#[47]⟩ 1;unfold Txt.partition
 cases e:Builtin.Str.occurrences z ⟨#[47]⟩ 0 z.length 1 with
 | nil=>rw [e] at f;simp at f
 | cons i r=>
  rw [e] at ch;obtain ⟨_,_,⟨h1,h2⟩,_⟩:=ch;have hi:=(StrLaws.subAt_one z 47 i).mp ⟨h1,h2⟩
  have ei:i=A.length:=by
   rw [h] at hi;rcases Nat.lt_trichotomy i A.length with g | g | g
   ·rw [List.getElem?_append_left g] at hi;exact absurd (fk hi) hA
   ·exact g
   ·rw [fF (by omega)] at hi;obtain ⟨j,hj⟩:∃ j,i-A.length=j+1:=⟨i-A.length-1,by omega⟩;rw [hj,List.getElem?_cons_succ] at hi;exact absurd (fk hi) hB
  subst ei
  have zl:z.length=A.length+1+B.length:=by
   show z.cps.size=_;rw [<- fe,h,fm,eV];omega
  show (Builtin.Str.strSub z 0 A.length,_,Builtin.Str.strSub z (A.length+1) z.length)=_;have e1:Builtin.Str.strSub z 0 A.length=⟨A.toArray⟩:=dO (by rw [StrLaws.strSub_toList,h,List.drop_zero,Nat.sub_zero,List.take_left])
  have e2:Builtin.Str.strSub z (A.length+1) z.length=⟨B.toArray⟩:=dO (by
   rw [StrLaws.strSub_toList,h,zl,List.drop_append,List.drop_of_length_le (by omega),Nat.add_sub_cancel_left];rw [List.nil_append,Nat.add_sub_cancel_left];show List.take _ B=B;exact List.take_of_length_le (by omega))
  rw [e1,e2]
theorem starts_one {z:Str} {c:Nat}:Txt.startswith z ⟨#[c]⟩=decide (z.cps.toList[0]?=some c):=by
 have:=StrLaws.subAt_one z c 0
 unfold Txt.startswith;rw [Bool.eq_iff_iff,Bool.and_eq_true,decide_eq_true_eq,decide_eq_true_eq];exact this
theorem fm_drop:∀ (n j:Nat) (a:Array Nat),j+n=a.size->((List.range n).map λ k=>j+k).filterMap (a[·]?)=a.toList.drop j
 | 0,j,a,h=>by
  rw [List.range_zero,List.map_nil,List.filterMap_nil,List.drop_of_length_le (by rw [fe];omega)]
 | n+1,j,a,h=>by
  have hj:j<a.size:=by omega
  rw [List.range_succ_eq_map,fz,ft,List.filterMap_cons,Nat.add_zero,Array.getElem?_eq_getElem hj];have e:((λ k=>j+k) ∘ Nat.succ)=λ k=>(j+1)+k:=funext λ k=>by show j+(k+1)=_;omega
  rw [e,fm_drop n (j+1) a (by omega)]
  have:j<a.toList.length:=by rw [fe];exact hj
  rw [List.drop_eq_getElem_cons this];rfl
theorem slice_one {z:Str} {c:Nat} {cs:List Nat} (h:z.cps.toList=c::cs):(Txt.slice z (some 1) none).cps.toList=cs:=by
 have zl:z.length=cs.length+1:=by show z.cps.size=_;rw [<- fe,h,eV]
 have e:Builtin.Str.strSliceIndices (some 1) none 1 z.length=(List.range cs.length).map λ k=>1+k:=by
  unfold Builtin.Str.strSliceIndices sliceRange;simp only [show (1:Int) > 0 by decide,if_true,show ¬ (1:Int)<0 by decide,if_false];rw [zl,show max (0:Int) (min 1 ((cs.length+1:Nat):Int))=1 by omega];rw [show (if (1:Int)<((cs.length+1:Nat):Int) then (((cs.length+1:Nat):Int)-1+1-1) / 1 else 0).toNat=cs.length by split <;> simp <;> omega];refine List.map_congr_left λ k hk=>?_;omega
 unfold Txt.slice;rw [e,if_neg (by simp;omega),fm_drop cs.length 1 z.cps (by have:z.cps.size=z.length:=rfl;omega),h];rfl
end G
namespace G
open PySem
theorem cz (p q:Str) (r:List Str):(Str.join ⟨#[32]⟩ (p::q::r)).cps.toList=p.cps.toList++32::(Str.join ⟨#[32]⟩ (q::r)).cps.toList:=by
 show (p++⟨#[32]⟩++Str.join ⟨#[32]⟩ (q::r)).cps.toList=_;rw [PySem.W.KT.app_list,PySem.W.KT.app_list,List.append_assoc];rfl
theorem cut_at {c:Nat} {A B C D:List Nat} (hA:¬ c∈A) (hC:¬ c∈C) (e:A++c::B=C++c::D):A=C/\B=D:=by
 induction A generalizing C with
 | nil=>
  cases C with
  | nil=>exact ⟨rfl,(List.cons.inj e).2⟩
  | cons d r=>exact absurd (by rw [(List.cons.inj e).1];exact eY) hC
 | cons x A ih=>
  cases C with
  | nil=>exact absurd (by rw [(List.cons.inj (show x::(A++c::B)=c::D from e)).1];exact eY) hA
  | cons d r=>
   obtain ⟨e1,e2⟩:=List.cons.inj (show x::(A++c::B)=d::(r++c::D) from e);obtain ⟨h1,h2⟩:=ih (λ z=>hA (eW _ z)) (λ z=>hC (eW _ z)) e2;exact ⟨by rw [e1,h1],h2⟩
theorem str_of {x y:Str} (h:x.cps.toList=y.cps.toList):x=y:=by
 cases x with
 | mk a=>
  cases y with
  | mk b=>exact fv Str.mk (Array.toList_inj.mp h)
theorem join_uniq:∀ (ps ws:List Str),ps≠[]->ws≠[]->(∀ p∈ps,¬ 32∈p.cps.toList)->(∀ p∈ws,¬ 32∈p.cps.toList)->Str.join ⟨#[32]⟩ ps=Str.join ⟨#[32]⟩ ws->ps=ws
 | [],_,h,_,_,_,_=>absurd rfl h
 | _::_,[],_,h,_,_,_=>absurd rfl h
 | [p],[q],_,_,_,_,e=>by rw [show p=q from e]
 | [p],q::q'::r,_,_,h1,_,e=>by
  have e:p=Str.join ⟨#[32]⟩ (q::q'::r):=e;exact absurd (by rw [e,cz];exact eR _ eY) (h1 p eY)
 | p::p'::r,[q],_,_,_,h2,e=>by
  have e:Str.join ⟨#[32]⟩ (p::p'::r)=q:=e;exact absurd (by rw [<- e,cz];exact eR _ eY) (h2 q eY)
 | p::p'::r,q::q'::t,_,_,h1,h2,e=>by
  have e:=fv (λ z:Str=>z.cps.toList) e;rw [cz,cz] at e;obtain ⟨e1,e2⟩:=cut_at (h1 p eY) (h2 q eY) e;rw [str_of e1,join_uniq (p'::r) (q'::t) (by simp) (by simp) (λ x hx=>h1 x (eW _ hx)) (λ x hx=>h2 x (eW _ hx)) (str_of e2)]
theorem split_ne (z:Str):Txt.split z ⟨#[32]⟩≠[]:=by
 intro hs;unfold Txt.split at hs
 split at hs
 ·cases hs
 ·split at hs
  ·cases hs
  ·have:=PySem.length_partsBetween z (Builtin.Str.occurrences z ⟨#[32]⟩ 0 z.length (z.length+1)) (⟨#[32]⟩:Str).length
   rw [hs] at this
   cases this
theorem split_words {ws:List Str} (h0:ws≠[]) (hf:∀ p∈ws,¬ 32∈p.cps.toList):Txt.split (Str.join ⟨#[32]⟩ ws) ⟨#[32]⟩=ws:=
 join_uniq _ _ (split_ne _) h0 (StrLaws.split_free _ 32) hf (StrLaws.join_split _ _)
theorem bv (x y:Str):(x++y).cps.toList=x.cps.toList++y.cps.toList:=PySem.W.KT.app_list x y
end G
namespace G
open PySem L2
noncomputable def Sm (i:Int):Prop:=i.natAbs<2 ^ 9000
noncomputable def SmR (x:Rat):Prop:=Sm x.num/\Sm (x.den:Int)
theorem Sm.le {a b:Int} (h:Sm b) (l:a.natAbs<=b.natAbs):Sm a:=eS l h
theorem gcd_pos_r (a:Int) {b:Int} (h:b≠0):0<gcd a b:=by
 have:=Int.gcd_pos_of_ne_zero_right a h
 unfold gcd;omega
theorem gcd_le_r (a:Int) {b:Int} (h:b≠0):(gcd a b).natAbs<=b.natAbs:=by
 have:=Int.gcd_le_natAbs_right a h
 unfold gcd;omega
theorem Sm.gcd_r (a:Int) {b:Int} (h:b≠0) (s:Sm b):Sm (gcd a b):=s.le (gcd_le_r a h)
theorem tb:¬ (("top":Str) = "bottom"):=by decide +kernel
noncomputable def ff (t b:Int):List (Str × V):=[("top",.int t),("bottom",.int b)]
theorem ff_T (t b:Int):(ff t b).lookup ("top":Str)=some (.int t):=rfl
theorem ff_B (t b:Int):(ff t b).lookup ("bottom":Str)=some (.int b):=by
 have h:(("bottom":Str) == "top")=false:=by decide +kernel
 show List.lookup ("bottom":Str) [(("top":Str),V.int t),("bottom",V.int b)]=_;rw [fb,h];rfl
theorem ff_no (t b:Int) {m:Str} (h1:(m == "top")=false) (h2:(m == "bottom")=false):(ff t b).lookup m=none:=by
 show List.lookup m [(("top":Str),V.int t),("bottom",V.int b)]=_;rw [fb,h1,fb,h2];rfl
theorem ff_new (t b:Int):aF "bottom" (.int b) (aF "top" (.int t) [])=ff t b:=by
 show (if ("top":Str) = "bottom" then _ else (("top":Str),V.int t)::[(("bottom":Str),V.int b)])=ff t b;rw [if_neg tb];rfl
noncomputable def FrAt (C:Addr) (H:Hp) (p:Addr) (x:Rat):Prop:=∃ dx,H p=some (.ins C dx (ff x.num x.den))
theorem FrAt.mono {C:Addr} {H H':Hp} {p:Addr} {x:Rat} (h:FrAt C H p x) (s:Same H H'):FrAt C H' p x:=by
 obtain ⟨dx,e⟩:=h
 exact ⟨dx,s _ _ e⟩
structure FrC (K:W.Frag) (C:Addr):Prop where
 cl:Cls K C
 nT:NoAttr K C "top"
 nB:NoAttr K C "bottom"
 c1:PySem.W.findIn K (.ref C) "__class__"=some (some (.builtin "object.__class__"))
 c2:PySem.W.specialIn K (.builtin "object.__class__") "__get__"=some (some (.builtin "getset_descriptor.__get__"))
 c3:PySem.W.takesIn K (.builtin "object.__class__")=some true
 c4:PySem.W.mroIn K C (.type "object")=some true
theorem FrAt.ty {K:W.Frag} {C:Addr} {H:Hp} {p:Addr} {x:Rat} (F:FrC K C) (h:FrAt C H p x):TyOf K H (.ref p) (.ref C):=by
 obtain ⟨_,e⟩:=h
 exact TyOf.ins e F.cl F.c1 F.c2 F.c3 F.c4
noncomputable def tTop (C:Addr) (ta:TE):TE:=λ σ H Q=>ta σ H λ v H1=>∃ p x,v=.ref p/\FrAt C H1 p x/\Q (.int x.num) H1
noncomputable def tBot (C:Addr) (ta:TE):TE:=λ σ H Q=>ta σ H λ v H1=>∃ p x,v=.ref p/\FrAt C H1 p x/\Q (.int x.den) H1
section
variable {X:Cx} {C:Addr} {e o:Expr} {ta:TE} {pos:Pos}
theorem pe_top (F:FrC X.K C) (he:PE X e ta) (hb:attributeBase e "top" X.env (eval e X.env)=eval e X.env:=by rfl):PE X (.Attribute e "top" pos) (tTop C ta):=by
 intro pins s σ H Q I h;refine attr_of hb (thn (he pins s σ H _ I h) λ u s1 ⟨v,H1,I1,r,p,x,e,⟨dx,hp⟩,q⟩=>?_);subst e;obtain rfl:u=Value.ref p:=r;exact dJ I1 hp F.cl F.nT (ff_T _ _) λ u' s' I' r'=>⟨_,H1,I',r',q⟩
theorem pe_bot (F:FrC X.K C) (he:PE X e ta) (hb:attributeBase e "bottom" X.env (eval e X.env)=eval e X.env:=by rfl):PE X (.Attribute e "bottom" pos) (tBot C ta):=by
 intro pins s σ H Q I h;refine attr_of hb (thn (he pins s σ H _ I h) λ u s1 ⟨v,H1,I1,r,p,x,e,⟨dx,hp⟩,q⟩=>?_);subst e;obtain rfl:u=Value.ref p:=r;exact dJ I1 hp F.cl F.nB (ff_B _ _) λ u' s' I' r'=>⟨_,H1,I',r',q⟩
noncomputable def tFrM (C:Addr) (sp:Sp) (E:XK) (ta:TE) (t:TA):TE:=λ σ H Q=>ta σ H λ v H1=>∃ p x,v=.ref p/\FrAt C H1 p x/\t σ H1 λ vs H2=>sp (v::vs) H2 Q E
variable {CX:CXT} {k j:Nat} {ps:List Str} {sp:Sp} {E:XK} {m:Str} {p apos:Pos} {es:List Expr} {t:TA}
theorem dZ {pl:Sem Bool} (F:FrC X.K C) (he:PE X o ta) (M:MtB X.prog X.w X.K X.mg X.base CX C m k ps sp) (hr:Room j X.A) (hx:bw CX X E) (hj:k<=j:=by decide) (h1:(m == "top")=false:=by decide +kernel) (h2:(m == "bottom")=false:=by decide +kernel)
  (ht:eval (.Call (.Attribute o m apos) [] [] pos) X.env=(do
   let ov <- eval o X.env
   standAt apos.atName
   let (f,first) <- holding [ov] (getMethod ov m pl)
   callWith pos f first (backTo pos (starEach [] X.env)) (backToKw pos (keywordEach [] X.env))):=by rfl):PE X (.Call (.Attribute o m apos) [] [] pos) (tFrM C sp E ta tNil):=by
 obtain ⟨f,fd,hm,b,d⟩:=M;intro pins s σ H Q I h;refine fV (pl:=pl) (thn (he pins s σ H _ I h) λ u s1 ⟨v,H1,I1,rx,a,x,ex,⟨dx,ea⟩,q⟩=>?_) ht;subst ex;obtain rfl:u=Value.ref a:=rx;refine cG I1 ea F.cl hm (ff_no _ _ h1 h2) ?_;exact PySem.W.callWith_K0 (first:=[.ref a]) I1.kIn hm.kp (run_fn (us:=[.ref a]) (vs:=[.ref a]) (dvs:=[]) d (hr.mono hj) b .nil hx I1 (.cons rfl .nil) q)
noncomputable def spDiv:Sp:=λ vs H Q _=>∃ a b:Int,vs=[.int a,.int b]/\Q (.int (gcd a b)) H
noncomputable def spInit (C:Addr):Sp:=λ vs H Q _=>∃ (p dx:Addr) (a b:Int),vs=[.ref p,.int a,.int b]/\H p=some (.ins C dx [])/\b≠0/\Sm b/\∀ H',H'=upd H p (.ins C dx (ff (Rat.divInt a b).num (Rat.divInt a b).den))->Q .non H'
noncomputable def NewFr (C:Addr) (H:Hp) (Q:VK) (x:Rat):Prop:=∀ (r:Addr) (H':Hp),H r=none->Same H H'->FrAt C H' r x->Q (.ref r) H'
theorem mk_fr {H:Hp} {a b:Int} {Q:VK} {E:XK} {x dx:Addr} (nx:H x=none) (nd:H dx=none) (hb:b≠0) (hs:Sm b) (k:∀ H':Hp,Same H H'->FrAt C H' x (Rat.divInt a b)->Q .non H') :
  spInit C [.ref x,.int a,.int b] (upd (upd H dx (.own x)) x (.ins C dx [])) Q E:=by
 refine ⟨x,dx,a,b,rfl,ac,hb,hs,λ H' e=>?_⟩;subst e;refine k _ (λ c o e=>?_) ⟨dx,ac⟩;rw [ag (ay e nx),ag (ay e nx),ag (ay e nd)];exact e
noncomputable def tMkFr (C:Addr) (dvs:List V) (t:TA):TE:=λ σ H Q=>t σ H λ vs H1=>∃ a b:Int,vs++dvs=[.int a,.int b]/\b≠0/\Sm b/\NewFr C H1 Q (Rat.divInt a b)
theorem pe_mkfr {dvs:List V} {x:Str} (F:MkB X.prog X.w X.K X.mg X.base CX C k ["self","top","bottom"] dvs (spInit C)) (hr:Room j X.A) (hm:X.mg x=some (.ref C)) (hx:bw CX X E) (ha:PA X (e::es) t) (hj:k+1<=j:=by decide) (hg:Gl X x:=by rfl) (hdb:(x == ("__debug__":Str))=false:=by decide)
  (he:starEach (e::es) X.env=(false,eval e X.env)::starEach es X.env:=by rfl) (hpl:(backTo pos (starEach es X.env)).any (·.1)=false:=by rfl):PE X (.Call (.Name x p) (e::es) [] pos) (tMkFr C dvs t):=by
 obtain ⟨f,fd,ds,M,b,c,d⟩:=F;intro pins s σ H Q I h;refine fW (bx I hg hm ?_ hdb);refine fX (h₀:=X.base) I.ok.mod.kin M.kp (thn (ha pos pins s σ H _ I h) λ us s1 ⟨vs,H1,I1,r,a',b',ev,hb,hs,q⟩=>⟨I1.kIn,?_⟩) he hpl;refine run_make M d (hr.mono hj) b c hx I1 r λ y dx n1 n2 _=>?_;rw [ev];exact mk_fr n1 n2 hb hs λ H' s' f'=>⟨rfl,q y H' n1 s' f'⟩
end
end G
namespace G
open PySem L2
noncomputable def ao (i:Nat):Stmt:=PySem.Challenge.pw_gainstream_k74_one_too_many.main.body.getD i (.Pass ⟨0,0,0,0⟩)
noncomputable abbrev s_divisor:Stmt:=ao 14
noncomputable abbrev s_in_lowest_terms:Stmt:=ao 16
noncomputable abbrev s_total:Stmt:=ao 17
noncomputable abbrev s_amount:Stmt:=ao 19
noncomputable abbrev cj:Stmt:=ao 20
noncomputable abbrev s_refuse_other_names:Stmt:=ao 21
noncomputable abbrev s_sums_of_own_ways:Stmt:=ao 22
noncomputable abbrev s_sums:Stmt:=ao 23
noncomputable abbrev s_worth:Stmt:=ao 24
noncomputable abbrev s_bound_passed:Stmt:=ao 25
noncomputable abbrev s_other_names:Stmt:=ao 26
noncomputable abbrev s_faults:Stmt:=ao 27
noncomputable abbrev s_together:Stmt:=ao 28
noncomputable abbrev s_scaled:Stmt:=ao 29
noncomputable abbrev s_ring_along:Stmt:=ao 31
noncomputable abbrev s_ways_of:Stmt:=ao 33
noncomputable abbrev s_places_of:Stmt:=ao 34
noncomputable abbrev s_gain_of:Stmt:=ao 35
noncomputable abbrev s_all_unlike:Stmt:=ao 36
noncomputable abbrev s_is_path:Stmt:=ao 37
noncomputable abbrev s_is_ring:Stmt:=ao 38
noncomputable abbrev s_sent:Stmt:=ao 39
noncomputable abbrev s_is_walk:Stmt:=ao 41
noncomputable abbrev s_growth:Stmt:=ao 42
noncomputable abbrev s_is_ring_with:Stmt:=ao 43
noncomputable abbrev s_is_round:Stmt:=ao 44
noncomputable abbrev s_parts_meet:Stmt:=ao 45
noncomputable abbrev s_is_road:Stmt:=ao 46
noncomputable abbrev s_is_strand:Stmt:=ao 47
noncomputable abbrev s_head_plan:Stmt:=ao 48
noncomputable abbrev s_tail_plan:Stmt:=ao 49
noncomputable abbrev s_road_plan:Stmt:=ao 50
noncomputable abbrev s_strand_plan:Stmt:=ao 51
noncomputable abbrev s_refuse_unfit:Stmt:=ao 54
noncomputable abbrev s_least:Stmt:=ao 55
noncomputable abbrev s_by_start:Stmt:=ao 56
noncomputable abbrev s_ring_in:Stmt:=ao 57
noncomputable abbrev s_most_along:Stmt:=ao 58
noncomputable abbrev s_less:Stmt:=ao 59
noncomputable abbrev s_taken_apart:Stmt:=ao 61
noncomputable abbrev s_multiple:Stmt:=ao 63
noncomputable abbrev s_common_part:Stmt:=ao 64
noncomputable abbrev s_as_wholes:Stmt:=ao 65
noncomputable abbrev s_coming:Stmt:=ao 69
noncomputable abbrev s_is_preferred:Stmt:=ao 70
noncomputable abbrev s_going:Stmt:=ao 71
noncomputable abbrev s_is_ahead:Stmt:=ao 72
noncomputable abbrev s_worst_row:Stmt:=ao 73
noncomputable abbrev s_make_fitting:Stmt:=ao 74
noncomputable abbrev s_make_greatest:Stmt:=ao 75
noncomputable abbrev s_by_unknown:Stmt:=ao 76
noncomputable abbrev s_values_of:Stmt:=ao 77
noncomputable abbrev s_weights_of:Stmt:=ao 78
noncomputable abbrev s_growing_of:Stmt:=ao 79
noncomputable abbrev s_best:Stmt:=ao 80
noncomputable abbrev s_greatest:Stmt:=ao 81
noncomputable abbrev s_asked_by:Stmt:=ao 83
noncomputable abbrev s_rows_of:Stmt:=ao 84
noncomputable abbrev s_ways_with_high:Stmt:=ao 85
noncomputable abbrev s_as_plan:Stmt:=ao 86
noncomputable abbrev s_by_places:Stmt:=ao 87
noncomputable abbrev s_by_highs:Stmt:=ao 88
noncomputable abbrev s_lack:Stmt:=ao 89
noncomputable abbrev s_endless:Stmt:=ao 90
noncomputable abbrev s_cheapest:Stmt:=ao 91
noncomputable abbrev s_most:Stmt:=ao 93
noncomputable abbrev cH:Stmt:=ao 102
noncomputable abbrev s_check_way:Stmt:=ao 103
noncomputable abbrev cS:Stmt:=ao 104
noncomputable abbrev dU:Stmt:=ao 111
noncomputable abbrev dS:Stmt:=ao 112
noncomputable abbrev cI:Stmt:=ao 113
noncomputable abbrev s_is_name:Stmt:=ao 114
noncomputable abbrev dh:Stmt:=ao 117
noncomputable abbrev s_read_name:Stmt:=ao 118
noncomputable abbrev s_read_gain:Stmt:=ao 119
noncomputable abbrev s_read_high:Stmt:=ao 120
noncomputable abbrev s_read_word:Stmt:=ao 121
noncomputable abbrev s_read_row:Stmt:=ao 122
noncomputable abbrev dk:Stmt:=ao 125
noncomputable abbrev s_law_whole:Stmt:=ao 126
noncomputable abbrev s_law_pair:Stmt:=ao 127
noncomputable abbrev dj:Stmt:=ao 128
noncomputable abbrev s_law_said:Stmt:=ao 129
noncomputable abbrev s_law_name:Stmt:=ao 130
noncomputable abbrev s_law_known:Stmt:=ao 131
noncomputable abbrev s_law_step:Stmt:=ao 132
noncomputable abbrev s_law:Stmt:=ao 133
noncomputable abbrev cK:Stmt:=ar (ao 15) 0
noncomputable abbrev s_Fraction_plus:Stmt:=ar (ao 15) 1
noncomputable abbrev s_Fraction_minus:Stmt:=ar (ao 15) 2
noncomputable abbrev s_Fraction_times:Stmt:=ar (ao 15) 3
noncomputable abbrev s_Fraction_over:Stmt:=ar (ao 15) 4
noncomputable abbrev s_Fraction_under:Stmt:=ar (ao 15) 5
noncomputable abbrev s_Fraction_same:Stmt:=ar (ao 15) 6
noncomputable abbrev cJ:Stmt:=ar (ao 15) 7
noncomputable abbrev cw:Stmt:=ar (ao 15) 8
noncomputable abbrev s_End_init:Stmt:=ar (ao 53) 0
noncomputable abbrev s_Taking_init:Stmt:=ar (ao 60) 0
noncomputable abbrev s_Taking_add_end:Stmt:=ar (ao 60) 1
noncomputable abbrev s_Taking_take_ring:Stmt:=ar (ao 60) 2
noncomputable abbrev s_Taking_sink_at:Stmt:=ar (ao 60) 3
noncomputable abbrev s_Taking_take_road:Stmt:=ar (ao 60) 4
noncomputable abbrev s_Taking_take_path:Stmt:=ar (ao 60) 5
noncomputable abbrev s_Wholes_init:Stmt:=ar (ao 66) 0
noncomputable abbrev s_Wholes_large_row:Stmt:=ar (ao 66) 1
noncomputable abbrev s_WholeGrid_init:Stmt:=ar (ao 67) 0
noncomputable abbrev s_WholeGrid_sum_row:Stmt:=ar (ao 67) 1
noncomputable abbrev s_WholeGrid_add_top:Stmt:=ar (ao 67) 2
noncomputable abbrev s_WholeGrid_drop_top:Stmt:=ar (ao 67) 3
noncomputable abbrev s_WholeGrid_exchange:Stmt:=ar (ao 67) 4
noncomputable abbrev s_WholeGrid_replaced:Stmt:=ar (ao 67) 5
noncomputable abbrev dE:Stmt:=ar (ao 95) 0
noncomputable abbrev b5:Stmt:=ar (ao 95) 1
noncomputable abbrev s_Way_gain:Stmt:=ar (ao 95) 2
noncomputable abbrev s_Way_out:Stmt:=ar (ao 95) 3
noncomputable abbrev b7:Stmt:=ar (ao 96) 0
noncomputable abbrev cU:Stmt:=ar (ao 96) 1
noncomputable abbrev s_Leaking_init:Stmt:=ar (ao 97) 0
noncomputable abbrev s_Leaking_gain:Stmt:=ar (ao 97) 1
noncomputable abbrev s_Store_init:Stmt:=ar (ao 98) 0
noncomputable abbrev s_Store_may_stay:Stmt:=ar (ao 98) 1
noncomputable abbrev s_Net_init:Stmt:=ar (ao 105) 0
noncomputable abbrev s_Net_names:Stmt:=ar (ao 105) 1
noncomputable abbrev s_Net_want:Stmt:=ar (ao 105) 2
noncomputable abbrev s_Net_way:Stmt:=ar (ao 105) 3
noncomputable abbrev cT:Stmt:=ar (ao 105) 4
noncomputable abbrev s_Desk_init:Stmt:=ar (ao 123) 0
noncomputable abbrev s_Desk_net:Stmt:=ar (ao 123) 1
noncomputable abbrev s_Desk_plan:Stmt:=ar (ao 123) 2
noncomputable abbrev s_Desk_say:Stmt:=ar (ao 123) 3
noncomputable abbrev bF:Stmt:=ar (ao 123) 4
noncomputable abbrev bV:Stmt:=ar (ao 123) 5
noncomputable abbrev bD:Stmt:=ar (ao 123) 6
noncomputable abbrev dl:Stmt:=ar (ao 123) 7
noncomputable abbrev bN:Stmt:=ar (ao 123) 8
noncomputable abbrev s_Desk_keep:Stmt:=ar (ao 123) 9
noncomputable abbrev s_Desk_told_cheapest:Stmt:=ar (ao 123) 10
noncomputable abbrev s_Desk_told_most:Stmt:=ar (ao 123) 11
noncomputable abbrev s_Desk_told:Stmt:=ar (ao 123) 12
noncomputable abbrev s_Desk_told_faults:Stmt:=ar (ao 123) 13
noncomputable abbrev b6:Stmt:=ar (ao 11) 0
structure Ad where
 Fraction:Addr
 End:Addr
 Taking:Addr
 Wholes:Addr
 WholeGrid:Addr
 Way:Addr
 Growing:Addr
 Leaking:Addr
 Store:Addr
 Net:Addr
 Desk:Addr
 GainError:Addr
 NoNumber:Addr
 TooMany:Addr
 NoStrand:Addr
 NoText:Addr
 NoRow:Addr
 NoWay:Addr
 Broken:Addr
 Twice:Addr
 NoPlace:Addr
 OverBound:Addr
noncomputable def bB:List (Str × List Str):=[("place",["name","fraction"]),("way",["name","name","name","gain","high","fraction"]),("drop",["name"]),("send",["name","fraction"]),("cheapest",[]),("most",["name"]),("look",[]),("amount",["name"]),("sum",["name"]),("cost",[]),("price",["name"]),("bound",["name"])]
structure TX (K:W.Frag) (mg:Str->Option Value) (a:Ad):Prop where
 d_divisor:FDe K mg "divisor" s_divisor ["one","other"]
 d_without_noughts:FDe K mg "without_noughts" cj ["plan"]
 d_wants_by_name:FDe K mg "wants_by_name" cH ["places"]
 d_check_way:FDe K mg "check_way" s_check_way ["way","ahead","wants"]
 d_ways_by_name:FDe K mg "ways_by_name" cS ["ways","wants"]
 d_is_made_of:FDe K mg "is_made_of" dU ["text","signs","most"]
 d_read_whole:FDe K mg "read_whole" dS ["text"]
 d_read_fraction:FDe K mg "read_fraction" cI ["text"]
 d_is_name:FDe K mg "is_name" s_is_name ["text"]
 d_read_number:FDe K mg "read_number" dh ["word"]
 d_read_name:FDe K mg "read_name" s_read_name ["word"]
 d_read_gain:FDe K mg "read_gain" s_read_gain ["word"]
 d_read_high:FDe K mg "read_high" s_read_high ["word"]
 d_read_word:FDe K mg "read_word" s_read_word ["kind","word"]
 d_read_row:FDe K mg "read_row" s_read_row ["row"]
 d_law_cell_at:FDe K mg "_law_cell_at" dk ["_law_script","_law_k"]
 d_law_whole:FDe K mg "_law_whole" s_law_whole ["_law_found"]
 d_law_pair:FDe K mg "_law_pair" s_law_pair ["_law_found"]
 d_law_refusal:FDe K mg "_law_refusal" dj ["_law_e"]
 d_law_said:FDe K mg "_law_said" s_law_said ["_law_desk","_law_row"]
 d_law_name:FDe K mg "_law_name" s_law_name ["_law_k","_law_cell"]
 d_law_known:FDe K mg "_law_known" s_law_known ["_law_desk","_law_wants","_law_gains"]
 d_law_step:FDe K mg "_law_step" s_law_step ["_law_desk","_law_cell","_law_first","_law_wants","_law_gains"]
 d_law:FDe K mg "law" s_law ["_law_script"]
 cl_Fraction:Cls K a.Fraction
 mg_Fraction:mg "Fraction"=some (.ref a.Fraction)
 na_Fraction_top:NoAttr K a.Fraction "top"
 na_Fraction_bottom:NoAttr K a.Fraction "bottom"
 i_Fraction:IDe K a.Fraction "Fraction.__init__" cK ["self","top","bottom"] [[],[V.int 1]]
 m_Fraction_sign:MDe K a.Fraction "sign" "Fraction.sign" cJ ["self"]
 m_Fraction_shown:MDe K a.Fraction "shown" "Fraction.shown" cw ["self"]
 c1_Fraction:PySem.W.findIn K (.ref a.Fraction) "__class__"=some (some (.builtin "object.__class__"))
 c4_Fraction:PySem.W.mroIn K a.Fraction (.type "object")=some true
 mg_End:mg "End"=some (.ref a.End)
 mg_Taking:mg "Taking"=some (.ref a.Taking)
 mg_Wholes:mg "Wholes"=some (.ref a.Wholes)
 mg_WholeGrid:mg "WholeGrid"=some (.ref a.WholeGrid)
 cl_Way:Cls K a.Way
 mg_Way:mg "Way"=some (.ref a.Way)
 na_Way_name:NoAttr K a.Way "name"
 na_Way_start:NoAttr K a.Way "start"
 na_Way_goal:NoAttr K a.Way "goal"
 na_Way_high:NoAttr K a.Way "high"
 na_Way_cost:NoAttr K a.Way "cost"
 c_Way:CDe K a.Way "Way.__init__" dE ["self","name","start","goal","high","cost"]
 m_Way_may_stay:MDe K a.Way "may_stay" "Way.may_stay" b5 ["self"]
 c1_Way:PySem.W.findIn K (.ref a.Way) "__class__"=some (some (.builtin "object.__class__"))
 c4_Way:PySem.W.mroIn K a.Way (.type "object")=some true
 cl_Growing:Cls K a.Growing
 mg_Growing:mg "Growing"=some (.ref a.Growing)
 na_Growing_rate:NoAttr K a.Growing "rate"
 na_Growing_name:NoAttr K a.Growing "name"
 na_Growing_start:NoAttr K a.Growing "start"
 na_Growing_goal:NoAttr K a.Growing "goal"
 na_Growing_high:NoAttr K a.Growing "high"
 na_Growing_cost:NoAttr K a.Growing "cost"
 i_Growing:IDe K a.Growing "Growing.__init__" b7 ["self","name","start","goal","rate","high","cost"] [[],[V.non,V.non]]
 m_Growing_gain:MDe K a.Growing "gain" "Growing.gain" cU ["self"]
 m_Growing_may_stay:MDe K a.Growing "may_stay" "Way.may_stay" b5 ["self"]
 c1_Growing:PySem.W.findIn K (.ref a.Growing) "__class__"=some (some (.builtin "object.__class__"))
 c4_Growing:PySem.W.mroIn K a.Growing (.type "object")=some true
 cl_Leaking:Cls K a.Leaking
 mg_Leaking:mg "Leaking"=some (.ref a.Leaking)
 na_Leaking_name:NoAttr K a.Leaking "name"
 na_Leaking_start:NoAttr K a.Leaking "start"
 na_Leaking_goal:NoAttr K a.Leaking "goal"
 na_Leaking_high:NoAttr K a.Leaking "high"
 na_Leaking_cost:NoAttr K a.Leaking "cost"
 m_Leaking_may_stay:MDe K a.Leaking "may_stay" "Way.may_stay" b5 ["self"]
 c1_Leaking:PySem.W.findIn K (.ref a.Leaking) "__class__"=some (some (.builtin "object.__class__"))
 c4_Leaking:PySem.W.mroIn K a.Leaking (.type "object")=some true
 cl_Store:Cls K a.Store
 mg_Store:mg "Store"=some (.ref a.Store)
 na_Store_name:NoAttr K a.Store "name"
 na_Store_start:NoAttr K a.Store "start"
 na_Store_goal:NoAttr K a.Store "goal"
 na_Store_high:NoAttr K a.Store "high"
 na_Store_cost:NoAttr K a.Store "cost"
 m_Store_may_stay:MDe K a.Store "may_stay" "Store.may_stay" s_Store_may_stay ["self"]
 c1_Store:PySem.W.findIn K (.ref a.Store) "__class__"=some (some (.builtin "object.__class__"))
 c4_Store:PySem.W.mroIn K a.Store (.type "object")=some true
 cl_Net:Cls K a.Net
 mg_Net:mg "Net"=some (.ref a.Net)
 na_Net_wants:NoAttr K a.Net "wants"
 na_Net_ways:NoAttr K a.Net "ways"
 i_Net:IDe K a.Net "Net.__init__" s_Net_init ["self","places","ways"] [[]]
 m_Net_names:MDe K a.Net "names" "Net.names" s_Net_names ["self"]
 m_Net_want:MDe K a.Net "want" "Net.want" s_Net_want ["self","place"]
 m_Net_way:MDe K a.Net "way" "Net.way" s_Net_way ["self","name"]
 m_Net_all_ways:MDe K a.Net "all_ways" "Net.all_ways" cT ["self"]
 cl_Desk:Cls K a.Desk
 mg_Desk:mg "Desk"=some (.ref a.Desk)
 na_Desk_wants:NoAttr K a.Desk "wants"
 na_Desk_ways:NoAttr K a.Desk "ways"
 na_Desk_amounts:NoAttr K a.Desk "amounts"
 na_Desk_prices:NoAttr K a.Desk "prices"
 na_Desk_bounds:NoAttr K a.Desk "bounds"
 i_Desk:IDe K a.Desk "Desk.__init__" s_Desk_init ["self"] [[]]
 m_Desk_net:MDe K a.Desk "net" "Desk.net" s_Desk_net ["self"]
 m_Desk_say:MDe K a.Desk "say" "Desk.say" s_Desk_say ["self","row"]
 m_Desk_refuse_missing:MDe K a.Desk "refuse_missing" "Desk.refuse_missing" bF ["self","words"]
 m_Desk_refuse_place:MDe K a.Desk "refuse_place" "Desk.refuse_place" bV ["self","place"]
 m_Desk_refuse_too_many:MDe K a.Desk "refuse_too_many" "Desk.refuse_too_many" bD ["self","words"]
 m_Desk_change:MDe K a.Desk "change" "Desk.change" dl ["self","words"]
 m_Desk_forget_prices:MDe K a.Desk "forget_prices" "Desk.forget_prices" bN ["self"]
 no_Net_sign:PySem.W.findIn K (.ref a.Net) "sign"=some none
 no_Net_may_stay:PySem.W.findIn K (.ref a.Net) "may_stay"=some none
 c2:PySem.W.specialIn K (.builtin "object.__class__") "__get__"=some (some (.builtin "getset_descriptor.__get__"))
 c3:PySem.W.takesIn K (.builtin "object.__class__")=some true
 mg_GainError:mg "GainError"=some (.ref a.GainError)
 mg_NoNumber:mg "NoNumber"=some (.ref a.NoNumber)
 mg_TooMany:mg "TooMany"=some (.ref a.TooMany)
 ex_TooMany:PySem.W.excIn K a.TooMany bmV "ValueError.__new__"=true
 mg_NoStrand:mg "NoStrand"=some (.ref a.NoStrand)
 mg_NoText:mg "NoText"=some (.ref a.NoText)
 mg_NoRow:mg "NoRow"=some (.ref a.NoRow)
 ex_NoRow:PySem.W.excIn K a.NoRow bmV "ValueError.__new__"=true
 mg_NoWay:mg "NoWay"=some (.ref a.NoWay)
 mg_Broken:mg "Broken"=some (.ref a.Broken)
 mg_Twice:mg "Twice"=some (.ref a.Twice)
 mg_NoPlace:mg "NoPlace"=some (.ref a.NoPlace)
 xi_NoPlace:XiDe K a.NoPlace "NoPlace.__init__" b6 ["self","place"]
 xs_NoPlace:ExI K a.NoPlace
 na_NoPlace_place:NoAttr K a.NoPlace "place"
 hd_NoPlace:PySem.W.hasDictIn K a.NoPlace=true
 br_NoPlace:ClsRd K a.GainError
 bf_NoPlace:PySem.W.findCls K (.ref a.GainError) (.type "type") "__init__"=some (.val (.builtin "ValueError.__init__"))
 mg_OverBound:mg "OverBound"=some (.ref a.OverBound)
 ca1_GainError:PySem.W.instIn K (.ref a.GainError) (.type "tuple")=some false
 ca2_GainError:∃ cd,PySem.W.clsIn K a.GainError=some cd
 ca3_GainError:PySem.W.subIn K (.ref a.GainError) (.type "BaseException")=some true
 su_NoPlace_GainError:PySem.W.subIn K (.ref a.NoPlace) (.ref a.GainError)=some true
 su_NoRow_GainError:PySem.W.subIn K (.ref a.NoRow) (.ref a.GainError)=some true
 su_TooMany_GainError:PySem.W.subIn K (.ref a.TooMany) (.ref a.GainError)=some true
 k_Fraction_Fraction:PySem.W.kitOne K (.ref a.Fraction) (.ref a.Fraction)=some true
 k_Way_Store:PySem.W.kitOne K (.ref a.Way) (.ref a.Store)=some false
 k_Growing_Store:PySem.W.kitOne K (.ref a.Growing) (.ref a.Store)=some false
 k_Leaking_Store:PySem.W.kitOne K (.ref a.Leaking) (.ref a.Store)=some false
 k_int_bool:PySem.W.kitOne K (.type "int") (.type "bool")=some false
 k_int_int:PySem.W.kitOne K (.type "int") (.type "int")=some true
 k_str_str:PySem.W.kitOne K (.type "str") (.type "str")=some true
 xga_NoPlace:PySem.W.findIn K (.ref a.NoPlace) "__getattribute__"=some (some (.builtin "BaseException.__getattribute__"))
 xgh_NoPlace:PySem.W.findIn K (.ref a.NoPlace) "__getattr__"=some none
 xbe_NoPlace:PySem.W.mroIn K a.NoPlace (.type "BaseException")=some true
 xca_NoPlace:PySem.W.findIn K (.ref a.NoPlace) "__class__"=some (some (.builtin "object.__class__"))
 xob_NoPlace:PySem.W.mroIn K a.NoPlace (.type "object")=some true
 xcl_NoPlace:∃ cd,PySem.W.clsIn K a.NoPlace=some cd
 k_NoPlace_NoNumber:PySem.W.kitOne K (.ref a.NoPlace) (.ref a.NoNumber)=some false
 k_NoPlace_NoPlace:PySem.W.kitOne K (.ref a.NoPlace) (.ref a.NoPlace)=some true
 k_NoPlace_NoRow:PySem.W.kitOne K (.ref a.NoPlace) (.ref a.NoRow)=some false
 k_NoPlace_NoText:PySem.W.kitOne K (.ref a.NoPlace) (.ref a.NoText)=some false
 k_NoPlace_NoWay:PySem.W.kitOne K (.ref a.NoPlace) (.ref a.NoWay)=some false
 k_NoPlace_TooMany:PySem.W.kitOne K (.ref a.NoPlace) (.ref a.TooMany)=some false
 k_NoPlace_Twice:PySem.W.kitOne K (.ref a.NoPlace) (.ref a.Twice)=some false
 k_NoPlace_ValueError:PySem.W.kitOne K (.ref a.NoPlace) (.type "ValueError")=some true
 xga_NoRow:PySem.W.findIn K (.ref a.NoRow) "__getattribute__"=some (some (.builtin "BaseException.__getattribute__"))
 xgh_NoRow:PySem.W.findIn K (.ref a.NoRow) "__getattr__"=some none
 xbe_NoRow:PySem.W.mroIn K a.NoRow (.type "BaseException")=some true
 xca_NoRow:PySem.W.findIn K (.ref a.NoRow) "__class__"=some (some (.builtin "object.__class__"))
 xob_NoRow:PySem.W.mroIn K a.NoRow (.type "object")=some true
 xcl_NoRow:∃ cd,PySem.W.clsIn K a.NoRow=some cd
 k_NoRow_NoNumber:PySem.W.kitOne K (.ref a.NoRow) (.ref a.NoNumber)=some false
 k_NoRow_NoPlace:PySem.W.kitOne K (.ref a.NoRow) (.ref a.NoPlace)=some false
 k_NoRow_NoRow:PySem.W.kitOne K (.ref a.NoRow) (.ref a.NoRow)=some true
 k_NoRow_NoText:PySem.W.kitOne K (.ref a.NoRow) (.ref a.NoText)=some false
 k_NoRow_NoWay:PySem.W.kitOne K (.ref a.NoRow) (.ref a.NoWay)=some false
 k_NoRow_TooMany:PySem.W.kitOne K (.ref a.NoRow) (.ref a.TooMany)=some false
 k_NoRow_Twice:PySem.W.kitOne K (.ref a.NoRow) (.ref a.Twice)=some false
 k_NoRow_ValueError:PySem.W.kitOne K (.ref a.NoRow) (.type "ValueError")=some true
 xga_TooMany:PySem.W.findIn K (.ref a.TooMany) "__getattribute__"=some (some (.builtin "BaseException.__getattribute__"))
 xgh_TooMany:PySem.W.findIn K (.ref a.TooMany) "__getattr__"=some none
 xbe_TooMany:PySem.W.mroIn K a.TooMany (.type "BaseException")=some true
 xca_TooMany:PySem.W.findIn K (.ref a.TooMany) "__class__"=some (some (.builtin "object.__class__"))
 xob_TooMany:PySem.W.mroIn K a.TooMany (.type "object")=some true
 xcl_TooMany:∃ cd,PySem.W.clsIn K a.TooMany=some cd
 k_TooMany_NoNumber:PySem.W.kitOne K (.ref a.TooMany) (.ref a.NoNumber)=some false
 k_TooMany_NoPlace:PySem.W.kitOne K (.ref a.TooMany) (.ref a.NoPlace)=some false
 k_TooMany_NoRow:PySem.W.kitOne K (.ref a.TooMany) (.ref a.NoRow)=some false
 k_TooMany_NoText:PySem.W.kitOne K (.ref a.TooMany) (.ref a.NoText)=some false
 k_TooMany_NoWay:PySem.W.kitOne K (.ref a.TooMany) (.ref a.NoWay)=some false
 k_TooMany_TooMany:PySem.W.kitOne K (.ref a.TooMany) (.ref a.TooMany)=some true
 k_TooMany_Twice:PySem.W.kitOne K (.ref a.TooMany) (.ref a.Twice)=some false
 k_TooMany_ValueError:PySem.W.kitOne K (.ref a.TooMany) (.type "ValueError")=some true
 gi_MOST_PLACES:∃ tk,mg "MOST_PLACES"=some (.int 12 tk)
 gi_MOST_WAYS:∃ tk,mg "MOST_WAYS"=some (.int 24 tk)
 gi_MOST_FIGURES:∃ tk,mg "MOST_FIGURES"=some (.int 9 tk)
 gi_MOST_LETTERS:∃ tk,mg "MOST_LETTERS"=some (.int 8 tk)
 gs_FIGURES:∃ tk,mg "FIGURES"=some (.str "0123456789" tk)
 gs_LETTERS:∃ tk,mg "LETTERS"=some (.str "abcdefghijklmnopqrstuvwxyz" tk)
 kt_FORMS:KTb K mg "FORMS" bB
 z_ValueError:mg "ValueError"=none
 z_abs:mg "abs"=none
 z_all:mg "all"=none
 z_bool:mg "bool"=none
 z_int:mg "int"=none
 z_isinstance:mg "isinstance"=none
 z_len:mg "len"=none
 z_list:mg "list"=none
 z_range:mg "range"=none
 z_str:mg "str"=none
 z_tuple:mg "tuple"=none
 z_zip:mg "zip"=none
open PySem L2 in
local macro_rules | `(tactic| walk_at "sc") => `(tactic| exact ⟨rfl, rfl, rfl, by decide +kernel, rfl, by decide +kernel, by decide +kernel⟩)
structure Bt (i:Int):Prop where
 le:Builtin.Int.intBits i<=2 ^ 20
inductive IspLaw (K:W.Frag) (vs:List V) (H:Hp) (Q:VK):Prop
 | mk (l:Addr) (ns:List Int) (h1:vs=[.ref l]) (h2:SqL K H l (ns.map V.int)) (h3:ns.length<=63) (h4:(∀ i∈ns,Bt i)) (h5:∀ H',Q (.bl true) H'):IspLaw K vs H Q
noncomputable def spLaw (K:W.Frag):Sp:=λ vs H Q _=>IspLaw K vs H Q
structure Zz where
 P:Program
 w:World
 K:W.Frag
 mg:Str->Option Value
 base:Heap
 a:Ad
noncomputable def ZzB (z:Zz):Prop:=TX z.K z.mg z.a->∀ f fd,Fun z.K "law" "law" s_law f fd->FnOk z.P z.w z.K z.mg z.base CX0 16 f fd ["_law_script"] (spLaw z.K)
theorem Zz.ex:∃ z:Zz,ZzB z->∀ z,ZzB z:=by
 by_cases h:∃ z,¬ ZzB z
 ·obtain ⟨z,hz⟩:=h;exact ⟨z,λ k=>absurd k hz⟩
 ·exact ⟨⟨default,⟨λ _ _=>0,⟨λ _=>0,λ _=>0,λ t=>t,λ _=>0,λ _ _=>0,λ _=>false,λ _=>0,.refcount,.text,λ _=>0,λ _=>none,λ _=>false,λ _ _ _=>true,λ _ _ _=>true,true,λ _=>false,λ _=>none,λ _=>none,λ _ _ _=>0,λ _ _=>none,λ _=>none,λ _=>(0,false,Str.ofString ""),λ _=>none,λ d=>d,λ _=>false⟩⟩,[],λ _=>none,default,⟨0,0,0,0,0,0,0,0,0,0,0,0,0,0,0,0,0,0,0,0,0,0⟩⟩,λ _ z=>Classical.byContradiction λ k=>h ⟨z,k⟩⟩
@[irreducible] noncomputable def zz:Zz:=Classical.choose Zz.ex
@[irreducible] noncomputable def P:Program:=zz.P
@[irreducible] noncomputable def w:World:=zz.w
@[irreducible] noncomputable def K:W.Frag:=zz.K
@[irreducible] noncomputable def mg:Str->Option Value:=zz.mg
@[irreducible] noncomputable def base:Heap:=zz.base
@[irreducible] noncomputable def a:Ad:=zz.a
theorem zz_all (h:TX K mg a->∀ f fd,Fun K "law" "law" s_law f fd->FnOk P w K mg base CX0 16 f fd ["_law_script"] (spLaw K)):∀ z,ZzB z:=by
 unfold K mg a P w base zz at h;exact Classical.choose_spec Zz.ex h
section
theorem TX.exa_NoPlace (T:TX K mg a):ExA K a.NoPlace:=⟨T.xga_NoPlace,T.xgh_NoPlace,T.xbe_NoPlace,T.xca_NoPlace,T.c2,T.c3,T.xob_NoPlace,T.xcl_NoPlace⟩
theorem TX.exa_NoRow (T:TX K mg a):ExA K a.NoRow:=⟨T.xga_NoRow,T.xgh_NoRow,T.xbe_NoRow,T.xca_NoRow,T.c2,T.c3,T.xob_NoRow,T.xcl_NoRow⟩
theorem TX.exa_TooMany (T:TX K mg a):ExA K a.TooMany:=⟨T.xga_TooMany,T.xgh_TooMany,T.xbe_TooMany,T.xca_TooMany,T.c2,T.c3,T.xob_TooMany,T.xcl_TooMany⟩
theorem sc_divisor:FnScope ["one","other","rest"] ["one","other"] (ah s_divisor):=by walk_at "sc"
theorem dD:FnScope ["plan","kept","name","part"] ["plan"] (ah cj):=by walk_at "sc"
theorem sc_wants_by_name:FnScope ["places","wants","name","want"] ["places"] (ah cH):=by walk_at "sc"
theorem sc_check_way:FnScope ["way","ahead","wants","place"] ["way","ahead","wants"] (ah s_check_way):=by walk_at "sc"
theorem sc_ways_by_name:FnScope ["ways","wants","ahead","way"] ["ways","wants"] (ah cS):=by walk_at "sc"
theorem sc_is_made_of:FnScope ["text","signs","most"] ["text","signs","most"] (ah dU):=by walk_at "sc"
theorem sc_read_whole:FnScope ["text"] ["text"] (ah dS):=by walk_at "sc"
theorem sc_read_fraction:FnScope ["text","parts","below","top","bottom","number"] ["text"] (ah cI):=by walk_at "sc"
theorem sc_is_name:FnScope ["text"] ["text"] (ah s_is_name):=by walk_at "sc"
theorem sc_read_number:FnScope ["word"] ["word"] (ah dh):=by walk_at "sc"
theorem sc_read_name:FnScope ["word"] ["word"] (ah s_read_name):=by walk_at "sc"
theorem sc_read_gain:FnScope ["word","gain"] ["word"] (ah s_read_gain):=by walk_at "sc"
theorem sc_read_high:FnScope ["word","high"] ["word"] (ah s_read_high):=by walk_at "sc"
theorem sc_read_word:FnScope ["kind","word"] ["kind","word"] (ah s_read_word):=by walk_at "sc"
theorem sc_read_row:FnScope ["row","words","form","read"] ["row"] (ah s_read_row):=by walk_at "sc"
theorem sc_law_cell_at:FnScope ["_law_script","_law_k"] ["_law_script","_law_k"] (ah dk):=by walk_at "sc"
theorem sc_law_whole:FnScope ["_law_found"] ["_law_found"] (ah s_law_whole):=by walk_at "sc"
theorem sc_law_pair:FnScope ["_law_found"] ["_law_found"] (ah s_law_pair):=by walk_at "sc"
theorem sc_law_refusal:FnScope ["_law_e","_law_told"] ["_law_e"] (ah dj):=by walk_at "sc"
theorem sc_law_said:FnScope ["_law_desk","_law_row","_law_caught","_law_found","_law_e"] ["_law_desk","_law_row"] (ah s_law_said):=by walk_at "sc"
theorem sc_law_name:FnScope ["_law_k","_law_cell","_law_letters"] ["_law_k","_law_cell"] (ah s_law_name):=by walk_at "sc"
theorem sc_law_known:FnScope ["_law_desk","_law_wants","_law_gains","_law_told","_law_name_here"] ["_law_desk","_law_wants","_law_gains"] (ah s_law_known):=by walk_at "sc"
theorem sc_law_step:FnScope ["_law_desk","_law_cell","_law_first","_law_wants","_law_gains","_law_mixed","_law_name_here","_law_number","_law_said_here","_law_start","_law_goal"] ["_law_desk","_law_cell","_law_first","_law_wants","_law_gains"] (ah s_law_step):=by walk_at "sc"
theorem sc_law:FnScope ["_law_script","_law_first","_law_desk","_law_wants","_law_gains","_law_k","_law_name_here","_law_row","_law_cell"] ["_law_script"] (ah s_law):=by walk_at "sc"
theorem sc_Fraction_init:FnScope ["self","top","bottom","common"] ["self","top","bottom"] (ah cK):=by walk_at "sc"
theorem sc_Fraction_sign:FnScope ["self"] ["self"] (ah cJ):=by walk_at "sc"
theorem dR:FnScope ["self"] ["self"] (ah cw):=by walk_at "sc"
theorem sc_Way_init:FnScope ["self","name","start","goal","high","cost"] ["self","name","start","goal","high","cost"] (ah dE):=by walk_at "sc"
theorem sc_Growing_init:FnScope ["self","name","start","goal","rate","high","cost"] ["self","name","start","goal","rate","high","cost"] (ah b7):=by walk_at "sc"
theorem sc_Growing_gain:FnScope ["self"] ["self"] (ah cU):=by walk_at "sc"
theorem sc_Net_init:FnScope ["self","places","ways"] ["self","places","ways"] (ah s_Net_init):=by walk_at "sc"
theorem sc_Net_names:FnScope ["self"] ["self"] (ah s_Net_names):=by walk_at "sc"
theorem sc_Net_want:FnScope ["self","place"] ["self","place"] (ah s_Net_want):=by walk_at "sc"
theorem sc_Net_way:FnScope ["self","name"] ["self","name"] (ah s_Net_way):=by walk_at "sc"
theorem sc_Net_all_ways:FnScope ["self"] ["self"] (ah cT):=by walk_at "sc"
theorem sc_Desk_init:FnScope ["self"] ["self"] (ah s_Desk_init):=by walk_at "sc"
theorem sc_Desk_net:FnScope ["self"] ["self"] (ah s_Desk_net):=by walk_at "sc"
theorem sc_Desk_say:FnScope ["self","row","words"] ["self","row"] (ah s_Desk_say):=by walk_at "sc"
theorem cD:FnScope ["self","words"] ["self","words"] (ah bF):=by walk_at "sc"
theorem cR:FnScope ["self","place"] ["self","place"] (ah bV):=by walk_at "sc"
theorem cv:FnScope ["self","words"] ["self","words"] (ah bD):=by walk_at "sc"
theorem sc_Desk_change:FnScope ["self","words","name"] ["self","words"] (ah dl):=by walk_at "sc"
theorem cN:FnScope ["self"] ["self"] (ah bN):=by walk_at "sc"
theorem sc_NoPlace_init:FnScope ["self","place"] ["self","place"] (ah b6):=by walk_at "sc"
end
end G
open PySem L2 in
local macro_rules | `(tactic| walk_at "kit") => `(tactic| first | exact G.TX.k_Fraction_Fraction (by assumption) | exact G.TX.k_Way_Store (by assumption) | exact G.TX.k_Growing_Store (by assumption) | exact G.TX.k_Leaking_Store (by assumption) | exact G.TX.k_int_bool (by assumption) | exact G.TX.k_int_int (by assumption) | exact G.TX.k_str_str (by assumption) | exact G.TX.k_NoPlace_NoNumber (by assumption) | exact G.TX.k_NoPlace_NoPlace (by assumption) | exact G.TX.k_NoPlace_NoRow (by assumption) | exact G.TX.k_NoPlace_NoText (by assumption) | exact G.TX.k_NoPlace_NoWay (by assumption) | exact G.TX.k_NoPlace_TooMany (by assumption) | exact G.TX.k_NoPlace_Twice (by assumption) | exact G.TX.k_NoPlace_ValueError (by assumption) | exact G.TX.k_NoRow_NoNumber (by assumption) | exact G.TX.k_NoRow_NoPlace (by assumption) | exact G.TX.k_NoRow_NoRow (by assumption) | exact G.TX.k_NoRow_NoText (by assumption) | exact G.TX.k_NoRow_NoWay (by assumption) | exact G.TX.k_NoRow_TooMany (by assumption) | exact G.TX.k_NoRow_Twice (by assumption) | exact G.TX.k_NoRow_ValueError (by assumption) | exact G.TX.k_TooMany_NoNumber (by assumption) | exact G.TX.k_TooMany_NoPlace (by assumption) | exact G.TX.k_TooMany_NoRow (by assumption) | exact G.TX.k_TooMany_NoText (by assumption) | exact G.TX.k_TooMany_NoWay (by assumption) | exact G.TX.k_TooMany_TooMany (by assumption) | exact G.TX.k_TooMany_Twice (by assumption) | exact G.TX.k_TooMany_ValueError (by assumption))
open PySem L2 in
local macro_rules | `(tactic| walk_at "sm") => `(tactic| first | assumption | (refine And.left (?_ : G.SmR _); assumption) | (refine And.right (?_ : G.SmR _); assumption))
open PySem L2 in
local macro_rules | `(tactic| walk_at "fa") => `(tactic| first | rfl | assumption | exact True.intro | exact (fun _ h => h) | ((with_reducible show L2.TyOf _ _ _ _); first | exact TyOf.int _ | exact TyOf.str _ | exact TyOf.bl _ | exact TyOf.non | exact G.FrAt.ty (G.TX.fr (by assumption)) (by walk_at "fa")) | ((with_reducible show PySem.W.kitOne _ _ _ = _); walk_at "kit") | ((with_reducible show G.FrAt _ _ _ _); apply G.FrAt.up; assumption; walk_at "fa") | ((with_reducible show L2.SqL _ _ _ _); apply Same.seq; assumption; walk_at "fa") | (show (0 : Int) < _; decide) | (refine (And.intro ?_ ?_ : CDiv _ _) <;> decide) | (refine (And.intro ?_ (And.intro ?_ ?_) : CPow _ _) <;> decide) | exact (PySem.IntMulOk.of_right (by decide)) | exact (PySem.IntMulOk.of_left (by decide)) | (refine (And.intro ?_ ?_ : CMulB _ _) <;> walk_at "sm"))
open PySem L2 in
local macro_rules | `(tactic| walk_at "rd") => `(tactic| repeat (first | refine L2.ItVar.mk _ (by walk_at "fa") ?_ | refine L2.ItB.mk _ (by walk_at "fa") ?_ | refine L2.ItTest.mk _ (by walk_at "fa") ?_ | refine L2.IrU.mk _ (by walk_at "fa") ?_ | refine L2.IrI0.mk _ _ (by walk_at "fa") (by walk_at "fa") ?_ | refine L2.IrIxL.mk _ _ _ _ (by walk_at "fa") (by walk_at "fa") (by walk_at "fa") (by walk_at "fa") ?_ | refine L2.IrIxT.mk _ _ _ _ (by walk_at "fa") (by walk_at "fa") (by walk_at "fa") (by walk_at "fa") ?_ | refine L2.ItFld.mk _ _ _ _ _ (by walk_at "fa") (by walk_at "fa") (by walk_at "fa") (by walk_at "fa") (by walk_at "fa") ?_ | apply @Exists.intro V | apply @Exists.intro Int | apply @Exists.intro Addr | apply @Exists.intro Rat | apply @Exists.intro Bool | apply @Exists.intro Value | apply @Exists.intro (List V) | apply @Exists.intro (List (Str × V)) | apply @Exists.intro Str | apply @Exists.intro (List Int) | refine And.intro (by walk_at "fa") ?_ | refine L2.iteT ?_ | refine L2.iteF ?_))
namespace G
open PySem L2
section
theorem TX.fr (T:TX K mg a):FrC K a.Fraction:=⟨T.cl_Fraction,T.na_Fraction_top,T.na_Fraction_bottom,T.c1_Fraction,T.c2,T.c3,T.c4_Fraction⟩
theorem gcd_turn {a b n m:Int} (h:gcd n m=gcd a b) (hm:0<=m) (p:m≠0):0<=n % m/\n % m<m/\gcd m (n % m)=gcd a b:=
 ⟨Int.emod_nonneg n p,Int.emod_lt_of_pos n (by omega),by rw [gcd_step n m (by omega),h]⟩
theorem ok_divisor (T:TX K mg a):FnB P w K mg base CX0 "divisor" 1 ["one","other"] spDiv:=by
 refine T.d_divisor.ok sc_divisor (λ vs H Q E h=>?_) (λ f cdv A outer s H vs Q E hr h=>?_)
 ·obtain ⟨a,b,rfl,_⟩:=h;rfl
 ·obtain ⟨a,b,rfl,k⟩:=h
  refine ⟨_,(ad (aD (i:=0) sc_divisor.nd rfl (Or.inl rfl) (az call_abs (by rfl) T.z_abs PyProof.Rows.boot_abs (aa (pv 0) af)))
   (ad (aD (i:=1) sc_divisor.nd rfl (Or.inl rfl) (az call_abs (by rfl) T.z_abs PyProof.Rows.boot_abs (aa (pv 1) af)))
   (ad (ps_while fU (aq op_ne (pv 1) ai (aw _)) (ad (aD (i:=2) sc_divisor.nd rfl (Or.inl rfl) (aA bo (pv 0) (pv 1)))
   (ad (aD (i:=0) sc_divisor.nd rfl (Or.inl rfl) (pv 1))
   (ae (aD (i:=1) sc_divisor.nd rfl (Or.inl rfl) (pv 2))))))
   (ae (av (pv 0)))))),?_⟩
  try dsimp only [aL,Cx.nox,Cx.wish]
  refine ⟨_,rfl,_,rfl,_,rfl,_,rfl,?_⟩;refine while_by (λ σ H'=>∃ (n m:Int) (r:Option V),σ=[some (.int n),some (.int m),r]/\H'=H/\0<=n/\0<=m/\gcd n m=gcd a b) (λ σ _=>match σ with | [_,some (.int m),_]=>m.toNat | _=>0) ?_ ?_ ?_
  ·refine ⟨_,_,_,rfl,rfl,?_,?_,gcd_abs a b⟩ <;> split <;> omega
  ·rintro σ H' ⟨n,m,r,rfl,rfl,hn,hm,hg⟩;refine ⟨_,rfl,rfl,_,rfl,?_⟩;by_cases z:m=0
   ·subst z;refine iteNS rfl ?_;refine ⟨_,rfl,?_⟩;rw [gcd_zero n hn] at hg;rw [hg];exact k
   ·refine bY (by rw [neV z];rfl) ?_;obtain ⟨g1,g2,g3⟩:=gcd_turn hg hm z;refine ⟨_,rfl,_,rfl,_,_,rfl,rfl,(by show (0:Int)<m;omega),_,rfl,_,rfl,⟨_,_,_,rfl,rfl,hm,g1,g3⟩,?_⟩;show (n % m).toNat<m.toNat;omega
  ·rintro σ H' Q1 Q2 hq ⟨v,e,s1,c,ec,q⟩;exact ⟨v,e,s1,c,ec,hq _ _ q⟩
theorem ok_init (T:TX K mg a):∀ dvs∈[[],[V.int 1]],MkB P w K mg base CX0 a.Fraction 2 ["self","top","bottom"] dvs (spInit a.Fraction):=by
 refine T.i_Fraction.ok sc_Fraction_init (λ vs H Q E h=>?_) (λ f cdv A outer s H vs Q E hr h=>?_)
 ·obtain ⟨p,dx,n,b,rfl,_⟩:=h;rfl
 ·obtain ⟨p,dx,n,b,rfl,hp,hb,sb,k⟩:=h
  refine ⟨_,(ad (aB (aq a8 (pv 2) ai (aw _)) (ae aO) aj)
   (ad (aD (i:=3) sc_Fraction_init.nd rfl (Or.inl rfl) (aN (ok_divisor T) hr aC (aa (pv 1) (aa (pv 2) af))))
   (ad (aB (aq op_lt (pv 2) ai (aw _)) (ae (aD (i:=3) sc_Fraction_init.nd rfl (Or.inl rfl) (pe_un un_neg (pv 3)))) aj)
   (ad (bn (pv 0) (aA op_fdivB (pv 1) (pv 3)) rfl)
   (ae (bn (pv 0) (aA op_fdivB (pv 2) (pv 3)) rfl)))))),?_⟩
  try dsimp only [aL,Cx.nox,Cx.wish]
  refine ⟨_,rfl,rfl,_,rfl,?_⟩;refine aU (neV hb) ?_;refine ⟨_,rfl,_,rfl,n,b,rfl,?_⟩;refine ⟨_,rfl,_,_,rfl,rfl,_,rfl,?_⟩;obtain ⟨i1,i2⟩:=init_spec n b hb;have gp:=gcd_pos_r n hb;have gs:=Sm.gcd_r n hb sb
  have fin:∀ c:Int,c≠0->Sm c->n.fdiv c=(Rat.divInt n b).num->b.fdiv c=((Rat.divInt n b).den:Int)->
    tSeq (sFld K (tVar 0) (tOp (rI CDivB λ i j=>.int (i.fdiv j)) (tVar 1) (tVar 3)) "top") (sFld K (tVar 0) (tOp (rI CDivB λ i j=>.int (i.fdiv j)) (tVar 2) (tVar 3)) "bottom") { nx:=λ _ H'=>Q .non H',rt:=Q } [some (.ref p),some (.int n),some (.int b),some (.int c)] H:=by
   intro c hc hs e1 e2;refine ⟨_,rfl,_,rfl,_,_,rfl,rfl,⟨hc,hs⟩,_,rfl,p,a.Fraction,dx,_,rfl,hp,T.cl_Fraction,T.na_Fraction_top,(by show 0<1000;decide),?_⟩;refine ⟨_,rfl,_,rfl,_,_,rfl,rfl,⟨hc,hs⟩,_,rfl,p,a.Fraction,dx,_,rfl,ac,T.cl_Fraction,T.na_Fraction_bottom,(by show 1<1000;decide),?_⟩;refine k _ ?_;rw [dN];dsimp only;rw [e1,e2,ff_new]
  refine ifB (λ hn=>?_) (λ hn=>?_)
  ·rw [if_pos hn] at i1 i2;refine ⟨_,rfl,_,rfl,?_⟩;exact fin _ (by omega) (gs.le (by omega)) i1 i2
  ·rw [if_neg hn] at i1 i2;exact fin _ (by omega) gs i1 i2
theorem sm1:Sm 1:=Nat.one_lt_two_pow (by decide)
theorem mk2 (T:TX K mg a):MkB P w K mg base CX0 a.Fraction 2 ["self","top","bottom"] [] (spInit a.Fraction):=ok_init T _ (by simp)
theorem mk1 (T:TX K mg a):MkB P w K mg base CX0 a.Fraction 2 ["self","top","bottom"] [.int 1] (spInit a.Fraction):=ok_init T _ (by simp)
end
end G
namespace G
open PySem L2
section
noncomputable def sgn (x:Rat):Int:=if 0<x.num then 1 else if x.num<0 then -1 else 0
theorem ok_sign (T:TX K mg a):MtB P w K mg base CX0 a.Fraction "sign" 1 ["self"] (λ vs H Q _=>∃ (p:Addr) (x:Rat),vs=[.ref p]/\FrAt a.Fraction H p x/\Q (.int (sgn x)) H):=by
 refine T.m_Fraction_sign.ok sc_Fraction_sign (λ vs H Q E h=>?_) (λ f cdv A outer s H vs Q E hr h=>?_)
 ·obtain ⟨p,x,rfl,_⟩:=h;rfl
 ·obtain ⟨p,x,rfl,hp,k⟩:=h
  refine ⟨_,(ad (aB (aq op_gt (pe_top T.fr (pv 0)) ai (aw _)) (ae (av ai)) aj)
   (ad (aB (aq op_lt (pe_top T.fr (pv 0)) ai (aw _)) (ae (av (pe_un un_neg ai))) aj)
   (ae (av ai)))),?_⟩
  try dsimp only [aL,Cx.nox,Cx.wish]
  walk_at "rd"
  refine ifB (λ h1=>?_) (λ h1=>?_)
  ·rw [show sgn x=1 from if_pos h1] at k;exact k
  ·walk_at "rd"
   refine ifB (λ h2=>?_) (λ h2=>?_)
   ·rw [show sgn x = -1 from (if_neg h1).trans (if_pos h2)] at k;walk_at "rd"
    exact k
   ·rw [show sgn x=0 from (if_neg h1).trans (if_neg h2)] at k;exact k
noncomputable def aH (x:Rat):Str:=if (x.den:Int)=1 then toString x.num else toString x.num ++ "/" ++ toString (x.den:Int)
noncomputable def Tx (i:Int):Prop:=i.natAbs<2 ^ 1900
theorem Tx.log {i:Int} (h:Tx i):i.natAbs.log2<1920:=by
 rcases Nat.eq_zero_or_pos i.natAbs with z | z
 ·rw [z];decide
 ·exact eP ((Nat.log2_lt (by omega)).mpr h) (by decide)
theorem txLen {i:Int} (h:Tx i):(Str.ofString (toString i)).length<=1921:=PyProof.Rows.int_text_len_1921 h.log
theorem ok_shown (T:TX K mg a):MtB P w K mg base CX0 a.Fraction "shown" 1 ["self"] (λ vs H Q _=>∃ (p:Addr) (x:Rat),vs=[.ref p]/\FrAt a.Fraction H p x/\Tx x.num/\Tx x.den/\Q (.str (aH x)) H):=by
 refine T.m_Fraction_shown.ok dR (λ vs H Q E h=>?_) (λ f cdv A outer s H vs Q E hr h=>?_)
 ·obtain ⟨p,x,rfl,_⟩:=h;rfl
 ·obtain ⟨p,x,rfl,hp,t1,t2,k⟩:=h
  refine ⟨_,(ad (aB (aq a8 (pe_bot T.fr (pv 0)) ai (aw _)) (ae (av (aQ bh (by rfl) T.z_str fE (aa (pe_top T.fr (pv 0)) af)))) aj)
   (ae (av (aA ax (aA ax (aQ bh (by rfl) T.z_str fE (aa (pe_top T.fr (pv 0)) af)) au) (aQ bh (by rfl) T.z_str fE (aa (pe_bot T.fr (pv 0)) af)))))),?_⟩
  try dsimp only [aL,Cx.nox,Cx.wish]
  walk_at "rd"
  refine ifV (λ h1=>?_) (λ h1=>?_)
  ·walk_at "rd"
   refine ⟨t1.log,?_⟩;rw [show aH x=_ from if_pos h1] at k;exact k
  ·walk_at "rd"
   refine ⟨t1.log,?_⟩;walk_at "rd"
   have l1:=txLen t1;have l2:=txLen t2;refine ⟨by rw [show ("/":Str).length=1 from rfl,eF];omega,?_⟩;walk_at "rd"
   refine ⟨t2.log,?_⟩;walk_at "rd"
   refine ⟨by rw [et,show ("/":Str).length=1 from rfl,eF];omega,?_⟩;rw [show aH x=_ from if_neg h1] at k;exact k
end
end G
namespace G
open PySem L2
section
inductive IspNoPlace (a:Ad) (vs:List V) (H:Hp) (Q:VK):Prop
 | mk (e:Addr) (n:Str) (h1:vs=[.ref e,.str n]) (h2:H e=some (XI e a.NoPlace none)) (h3:n.length<=1000) (h4:∀ dx,H dx=none->Q .non (upd (upd H e (XI e a.NoPlace (some dx))) dx (.xd [("place",.str n)]))):IspNoPlace a vs H Q
noncomputable def spNoPlace (a:Ad):Sp:=λ vs H Q _=>IspNoPlace a vs H Q
theorem b_NoPlace (T:TX K mg a):BodyOk P w K mg base "NoPlace.__init__" b6 ["self","place"] 0 (spNoPlace a):=by
 intro f cdv A outer s₀ H vs Q E hr h;obtain ⟨e,n,rfl,he,hn,k⟩:=h
 refine ⟨_,(ad (bf (pe_binit T.br_NoPlace T.bf_NoPlace T.mg_GainError (aa (pv 0) (aa (pe_j2 au (pe_fv (pv 1))) af))))
   (ae (ps_xfld (pv 0) (pv 1) rfl))),?_⟩
 try dsimp only [aL,Cx.nox,Cx.wish]
 obtain ⟨fi,hfi⟩:=T.xi_NoPlace.fi;refine ⟨_,rfl,_,rfl,by rw [eF];decide,_,rfl,_,rfl,by rw [eF];omega,_,rfl,?_,e,a.NoPlace,none,_,fi,rfl,he,hfi,?_,?_⟩
 ·rw [show ("no such place: ":Str).length=15 from by decide +kernel,eF];omega
 ·rw [eF];show 1<=_;omega
 ·exact ⟨_,rfl,_,rfl,e,a.NoPlace,rfl,he,T.xs_NoPlace,T.na_NoPlace_place,k⟩
theorem xi_NoPlace (T:TX K mg a):XiB P w K mg base a.NoPlace 1 ["self","place"] (spNoPlace a):=
 T.xi_NoPlace.ok sc_NoPlace_init (λ vs H Q E h=>by obtain ⟨_,_,rfl,_⟩:=h;rfl) (b_NoPlace T)
noncomputable def NoPlaceE (a:Ad) (H:Hp) (n:Str) (E:XK):Prop:=∀ H' dx,Same H H'->H' dx=some (.xd [("place",.str n)])->E (.ref a.NoPlace) (some dx) H'
theorem raise_np {H:Hp} {n:Str} {E:XK} (hn:n.length<=1000) (k:NoPlaceE a H n E):([V.str n]:List V).length<=sizeLine/\
  ∀ e,H e=none->spNoPlace a ((.ref e::[.str n])++[]) (upd H e (XI e a.NoPlace none)) (λ v H2=>v=.non/\∃ d,H2 e=some (XI e a.NoPlace d)/\E (.ref a.NoPlace) d (del H2 e)) E0:=by
 refine ⟨by rw [eF];show 1<=_;omega,λ e he=>⟨e,n,rfl,ac,hn,λ dx hd=>⟨rfl,some dx,?_,?_⟩⟩⟩
 ·have ne:dx≠e:=λ z=>by rw [z,ac] at hd;cases hd
  rw [ag (Ne.symm ne),ac]
 ·have ne:dx≠e:=λ z=>by rw [z,ac] at hd;cases hd
  have hd':H dx=none:=by rw [ag ne] at hd;exact hd
  refine k _ dx (λ b o eb=>?_) ?_
  ·have n1:=ay eb he;have n2:=ay eb hd';unfold del;rw [if_neg n1,ag n2,ag n1,ag n1];exact eb
  ·unfold del;rw [if_neg ne,ac]
end
end G
namespace G
open PySem L2
section
structure WayC (K:W.Frag) (C:Addr):Prop where
 cl:Cls K C
 n1:NoAttr K C "name"
 n2:NoAttr K C "start"
 n3:NoAttr K C "goal"
 n4:NoAttr K C "high"
 n5:NoAttr K C "cost"
theorem TX.wW (T:TX K mg a):WayC K a.Way:=⟨T.cl_Way,T.na_Way_name,T.na_Way_start,T.na_Way_goal,T.na_Way_high,T.na_Way_cost⟩
theorem TX.wG (T:TX K mg a):WayC K a.Growing:=⟨T.cl_Growing,T.na_Growing_name,T.na_Growing_start,T.na_Growing_goal,T.na_Growing_high,T.na_Growing_cost⟩
theorem TX.wL (T:TX K mg a):WayC K a.Leaking:=⟨T.cl_Leaking,T.na_Leaking_name,T.na_Leaking_start,T.na_Leaking_goal,T.na_Leaking_high,T.na_Leaking_cost⟩
theorem TX.wS (T:TX K mg a):WayC K a.Store:=⟨T.cl_Store,T.na_Store_name,T.na_Store_start,T.na_Store_goal,T.na_Store_high,T.na_Store_cost⟩
structure W5 (fs:List (Str × V)) (n s g:Str) (vh vc:V):Prop where
 nm:fs.lookup ("name":Str)=some (.str n)
 st:fs.lookup ("start":Str)=some (.str s)
 go:fs.lookup ("goal":Str)=some (.str g)
 hi:fs.lookup ("high":Str)=some vh
 co:fs.lookup ("cost":Str)=some vc
 ga:fs.lookup ("gain":Str)=none
 ou:fs.lookup ("out":Str)=none
 len:fs.length<=10
theorem W5.new {n s g:Str} {vh vc:V}:W5 (aF "cost" vc (aF "high" vh (aF "goal" (.str g) (aF "start" (.str s) (aF "name" (.str n) []))))) n s g vh vc:=by
 refine ⟨?_,?_,?_,?_,?_,?_,?_,?_⟩
 iterate 7
  simp only [bQ]
  (repeat rw [if_neg (by decide +kernel)])
  try rw [if_pos rfl]
  try rfl
 ·have h1:=bc "cost" vc (aF "high" vh (aF "goal" (.str g) (aF "start" (.str s) (aF "name" (.str n) []))));have h2:=bc "high" vh (aF "goal" (.str g) (aF "start" (.str s) (aF "name" (.str n) [])));have h3:=bc "goal" (.str g) (aF "start" (.str s) (aF "name" (.str n) []));have h4:=bc "start" (.str s) (aF "name" (.str n) []);have h5:=bc "name" (.str n) [];simp only [List.length_nil] at h5;omega
theorem W5.put {fs:List (Str × V)} {n s g:Str} {vh vc v:V} {f:Str} (h:W5 fs n s g vh vc) (hf:f∈(["rate","loss"]:List Str)) (hl:fs.length<=5):W5 (aF f v fs) n s g vh vc:=by
 have e:∀ x∈(["name","start","goal","high","cost","gain","out"]:List Str),x≠f:=by
  intro x hx z;subst z
  revert hx hf
  simp only [eT,fA,or_false];rintro (rfl | rfl | rfl | rfl | rfl | rfl | rfl) (h | h) <;> exact absurd h (by decide +kernel)
 have l:=bc f v fs;refine ⟨?_,?_,?_,?_,?_,?_,?_,by omega⟩ <;> rw [bQ,if_neg (e _ (by simp))]
 ·exact h.nm
 ·exact h.st
 ·exact h.go
 ·exact h.hi
 ·exact h.co
 ·exact h.ga
 ·exact h.ou
theorem aG {f:Str} {v:V} {fs:List (Str × V)} {m:Nat} (h:fs.length<=m):(aF f v fs).length<=m+1:=eQ (bc f v fs) (Nat.succ_le_succ h)
theorem sgn_nn {x:Rat} (h:0<=x.num):¬ sgn x<0:=by
 unfold sgn
 repeat' split
 all_goals omega
theorem sgn_p {x:Rat} (h:0<x.num):¬ sgn x<=0:=by
 unfold sgn;rw [if_pos h];decide
noncomputable def HiOk (C:Addr) (H:Hp) (v:V):Prop:=v=.non∨∃ (q:Addr) (x:Rat),v=.ref q/\FrAt C H q x/\0<=x.num
noncomputable def CoIs (C:Addr) (H:Hp) (p:Addr) (vc vc':V):Prop:=(vc≠.non/\vc'=vc)∨(vc=.non/\∃ q,vc'=.ref q/\q≠p/\FrAt C H q (Rat.divInt 0 1))
theorem CoIs.upd {C p:Addr} {H:Hp} {vc vc':V} {o:HO} (h:CoIs C H p vc vc'):CoIs C (upd H p o) p vc vc':=h.imp id λ⟨e,q,e2,ne,dq,f⟩=>⟨e,q,e2,ne,dq,by rw [ag ne];exact f⟩
inductive IspWayN (K:W.Frag) (a:Ad) (vs:List V) (H:Hp) (Q:VK):Prop
 | mk (p C dx:Addr) (n s g:Str) (vh vc:V) (h1:vs=[.ref p,.str n,.str s,.str g,vh,vc]) (h2:H p=some (.ins C dx [])) (h3:WayC K C) (h4:s≠g) (h5:HiOk a.Fraction H vh) (h6:∀ H' fs vc',W5 fs n s g vh vc'->fs.length<=5->CoIs a.Fraction H' p vc vc'->(∀ b o,H b=some o->b≠p->H' b=some o)->H' p=some (.ins C dx fs)->Q .non H'):IspWayN K a vs H Q
noncomputable def spWayN (K:W.Frag) (a:Ad):Sp:=λ vs H Q _=>IspWayN K a vs H Q
theorem b_Way (T:TX K mg a):BodyOk P w K mg base "Way.__init__" dE ["self","name","start","goal","high","cost"] 3 (spWayN K a):=by
 intro f cdv A outer s₀ H vs Q E hr h;obtain ⟨p,C,dx,n,s,g,vh,vc,rfl,hp,c,sg,hh,k⟩:=h
 refine ⟨_,(aM (aB (PW.pt (cn (aq a8 (pv 2) (pv 3) (aw _)) (ck (cV (bg (cE (CX:=CX0) (pv 0) hr aC)))))) (ae aO) aj)
   (aM (aB (PW.pt (cn (aq op_notN (pv 4) bz (aw _)) (ck (aq op_lt (dZ T.fr (pv 4) (ok_sign T) hr aC) ai (aw _))))) (ae aO) aj)
   (ad (bn (pv 0) (pv 1) rfl)
   (ad (bn (pv 0) (pv 2) rfl)
   (ad (bn (pv 0) (pv 3) rfl)
   (ad (bn (pv 0) (pv 4) rfl)
   (ae (bn (pv 0) (dY (aq op_isN (pv 5) bz (aw _)) (pe_mkfr (mk1 T) hr T.mg_Fraction aC (aa ai af)) (pv 5)) rfl)))))))),?_⟩
 try dsimp only [aL,Cx.nox,Cx.wish]
 refine cf (λ σ' H'=>σ'=[some (.ref p),some (.str n),some (.str s),some (.str g),some vh,some vc]/\H'=H) ?_ ?_
 ·walk_at "rd"
  refine aU (eD λ z=>sg (V.str.inj z)) ?_;walk_at "rd"
  first | exact ⟨rfl,rfl⟩ | exact rfl
 rintro zU hzU σ' H' ⟨rfl,rfl⟩;subst hzU;refine ⟨λ σ' H''=>σ'=[some (.ref p),some (.str n),some (.str s),some (.str g),some vh,some vc]/\H''=H',?_,?_⟩
 ·rcases hh with rfl | ⟨q,x,rfl,fq,hx⟩
  ·walk_at "rd"
   first | exact ⟨rfl,rfl⟩ | exact rfl
  ·walk_at "rd"
   refine aU (eD (sgn_nn hx)) ?_;first | exact ⟨rfl,rfl⟩ | exact rfl
 rintro σ' H'' ⟨rfl,rfl⟩;refine ⟨_,rfl,_,rfl,p,C,dx,[],rfl,hp,c.cl,c.n1,by decide,?_⟩;refine ⟨_,rfl,_,rfl,p,C,dx,_,rfl,ac,c.cl,c.n2,eS (aG (eC 0)) (by decide),?_⟩;refine ⟨_,rfl,_,rfl,p,C,dx,_,rfl,ac,c.cl,c.n3,eS (aG (aG (eC 0))) (by decide),?_⟩;refine ⟨_,rfl,_,rfl,p,C,dx,_,rfl,ac,c.cl,c.n4,eS (aG (aG (aG (eC 0)))) (by decide),?_⟩;simp only [dN];walk_at "rd"
 by_cases hc:vc=.non
 ·refine bY (eK hc) ?_;walk_at "rd"
  refine ⟨by decide,sm1,λ q H1 nq s1 f1=>?_⟩;refine ⟨_,rfl,p,C,dx,_,rfl,s1 _ _ ac,c.cl,c.n5,eS (aG (aG (aG (aG (eC 0))))) (by decide),?_⟩;have nqp:q≠p:=λ z=>by rw [z,ac] at nq;cases nq
  obtain ⟨dq,f1⟩:=f1;refine k _ _ (.ref q) W5.new (aG (aG (aG (aG (aG (eC 0)))))) (.inr ⟨hc,q,rfl,nqp,dq,by rw [ag nqp];exact f1⟩) (λ b o e nb=>?_) ac;rw [ag nb];refine s1 _ _ ?_;rw [ag nb];exact e
 ·refine aU (eD hc) ?_;refine ⟨_,rfl,_,rfl,p,C,dx,_,rfl,ac,c.cl,c.n5,eS (aG (aG (aG (aG (eC 0))))) (by decide),?_⟩;rw [dN];refine k _ _ vc W5.new (aG (aG (aG (aG (aG (eC 0)))))) (.inl ⟨hc,rfl⟩) (λ b o e nb=>?_) ac;rw [ag nb];exact e
theorem len_WayN:∀ vs H Q E,spWayN K a vs H Q E->vs.length=(["self","name","start","goal","high","cost"]:List Str).length:=λ vs H Q E h=>by
 obtain ⟨_,_,_,_,_,_,_,_,rfl,_⟩:=h;rfl
theorem cf_Way (T:TX K mg a):CfB P w K mg base CX0 a.Way "__init__" 4 ["self","name","start","goal","high","cost"] (spWayN K a):=T.c_Way.ok sc_Way_init len_WayN (b_Way T)
inductive IspPartN (K:W.Frag) (a:Ad) (f:Str) (ok:Rat->Prop) (vs:List V) (H:Hp) (Q:VK):Prop
 | mk (p C dx:Addr) (n s g:Str) (vh vc:V) (q:Addr) (x:Rat) (h1:vs=[.ref p,.str n,.str s,.str g,.ref q,vh,vc]) (h2:H p=some (.ins C dx [])) (h3:WayC K C) (h4:NoAttr K C f) (h5:s≠g) (h6:FrAt a.Fraction H q x) (h7:ok x) (h8:HiOk a.Fraction H vh) (h9:∀ H' fs vc',W5 fs n s g vh vc'->fs.lookup f=some (.ref q)->CoIs a.Fraction H' p vc vc'->(∀ b o,H b=some o->b≠p->H' b=some o)->H' p=some (.ins C dx fs)->Q .non H'):IspPartN K a f ok vs H Q
noncomputable def spPartN (K:W.Frag) (a:Ad) (f:Str) (ok:Rat->Prop):Sp:=λ vs H Q _=>IspPartN K a f ok vs H Q
theorem len_PartN {f:Str} {ok:Rat->Prop} {z:Str}:∀ vs H Q E,spPartN K a f ok vs H Q E->vs.length=(["self","name","start","goal",z,"high","cost"]:List Str).length:=λ vs H Q E h=>by
 obtain ⟨_,_,_,_,_,_,_,_,_,_,rfl,_⟩:=h;rfl
noncomputable abbrev growOk:Rat->Prop:=λ x=>0<x.num
noncomputable abbrev leakOk:Rat->Prop:=λ x=>0<=x.num/\x<1/\SmR x
theorem b_Growing (T:TX K mg a):BodyOk P w K mg base "Growing.__init__" b7 ["self","name","start","goal","rate","high","cost"] 4 (spPartN K a "rate" growOk):=by
 intro f cdv A outer s₀ H vs Q E hr h;obtain ⟨p,C,dx,n,s,g,vh,vc,q,x,rfl,hp,c,nf,sg,fq,hx,hh,k⟩:=h
 refine ⟨_,(ad (aB (aq op_le (dZ T.fr (pv 4) (ok_sign T) hr aC) ai (aw _)) (ae aO) aj)
   (ad (bf (pe_cf (cf_Way T) hr T.mg_Way aC (aa (pv 0) (aa (pv 1) (aa (pv 2) (aa (pv 3) (aa (pv 5) (aa (pv 6) af))))))))
   (ae (bn (pv 0) (pv 4) rfl)))),?_⟩
 try dsimp only [aL,Cx.nox,Cx.wish]
 walk_at "rd"
 refine aU (eD (sgn_p hx)) ?_;refine ⟨_,rfl,_,rfl,_,rfl,_,rfl,_,rfl,_,rfl,p,C,dx,n,s,g,vh,vc,rfl,hp,c,sg,hh,λ H2 fs vc' h5 hl co hs ho=>?_⟩;refine ⟨_,rfl,_,rfl,p,C,dx,fs,rfl,ho,c.cl,nf,eS hl (by decide),?_⟩;refine k _ _ vc' (h5.put (by simp) hl) ?_ co.upd (λ b o e ne=>?_) ac
 ·rw [bQ,if_pos rfl]
 ·rw [ag ne];exact hs b o e ne
theorem mk_GrowingN (T:TX K mg a):∀ dvs∈[[],[V.non,V.non]],MkB P w K mg base CX0 a.Growing 5 ["self","name","start","goal","rate","high","cost"] dvs (spPartN K a "rate" growOk):=T.i_Growing.ok sc_Growing_init len_PartN (b_Growing T)
theorem mk_Growing (T:TX K mg a):MkB P w K mg base CX0 a.Growing 5 ["self","name","start","goal","rate","high","cost"] [] (spPartN K a "rate" growOk):=mk_GrowingN T _ (by simp)
inductive Kd where
 | way
 | gro
 | lea
 | sto
noncomputable def Kd.n:Kd->Int
 | .way=>0
 | .gro=>1
 | .lea=>2
 | .sto=>3
noncomputable def Kd.C (a:Ad):Kd->Addr
 | .way=>a.Way
 | .gro=>a.Growing
 | .lea=>a.Leaking
 | .sto=>a.Store
noncomputable def Kd.f:Kd->Str
 | .gro=>"rate"
 | _=>"loss"
noncomputable def Kd.ok:Kd->Rat->Prop
 | .way=>λ _=>True
 | .gro=>growOk
 | _=>leakOk
noncomputable def gainOf:Kd->Rat->Rat
 | .way=>λ _=>1
 | .gro=>λ x=>x
 | _=>λ x=>1-x
structure WayAt (a:Ad) (H:Hp) (p:Addr) (kd:Kd) (n s g:Str) (vh vc:V) (q:Addr) (x:Rat):Prop where
 ob:∃ dx fs,H p=some (.ins (kd.C a) dx fs)/\W5 fs n s g vh vc/\(kd≠.way->fs.lookup kd.f=some (.ref q))
 fq:kd≠.way->FrAt a.Fraction H q x
noncomputable def Stays (a:Ad) (H H':Hp):Prop:=∀ b C dx fs,(C=a.Fraction∨∃ kd:Kd,C=kd.C a)->H b=some (.ins C dx fs)->H' b=some (.ins C dx fs)
theorem Stays.of {a:Ad} {H H':Hp} (s:Same H H'):Stays a H H':=λ b C dx fs _ e=>s _ _ e
theorem Stays.fr {a:Ad} {H H':Hp} {q:Addr} {x:Rat} (k:Stays a H H') (h:FrAt a.Fraction H q x):FrAt a.Fraction H' q x:=by
 obtain ⟨dq,f⟩:=h
 exact ⟨dq,k _ _ _ _ (.inl rfl) f⟩
theorem WayAt.keep {a:Ad} {H H':Hp} {p:Addr} {kd:Kd} {n s g:Str} {vh vc:V} {q:Addr} {x:Rat} (h:WayAt a H p kd n s g vh vc q x) (k:Stays a H H'):WayAt a H' p kd n s g vh vc q x:=
 ⟨let ⟨dx,fs,e,r⟩:=h.ob;⟨dx,fs,k _ _ _ _ (.inr ⟨kd,rfl⟩) e,r⟩,λ z=>k.fr (h.fq z)⟩
theorem WayAt.mono {a:Ad} {H H':Hp} {p:Addr} {kd:Kd} {n s g:Str} {vh vc:V} {q:Addr} {x:Rat} (h:WayAt a H p kd n s g vh vc q x) (ss:Same H H'):WayAt a H' p kd n s g vh vc q x:=h.keep (.of ss)
theorem Stays.put {a:Ad} {H:Hp} {d:Addr} {o o':HO} (hd:H d=some o) (ho:∀ C dx fs,o≠.ins C dx fs):Stays a H (upd H d o'):=λ b C dx fs _ e=>by rw [ag (cy e hd (ho C dx fs).symm)];exact e
theorem cls_any (T:TX K mg a) (kd:Kd):WayC K (kd.C a):=by
 cases kd
 ·exact T.wW
 ·exact T.wG
 ·exact T.wL
 ·exact T.wS
theorem same_new {H H':Hp} {x dx C:Addr} (h1:H x=none) (h2:H dx=none) (h:∀ b o,(upd (upd H dx (.own x)) x (.ins C dx [])) b=some o->b≠x->H' b=some o):Same H H':=by
 intro b o e;have n1:=ay e h1;refine h b o ?_ n1;rw [ag n1,ag (ay e h2)];exact e
theorem same_two {H:Hp} {x dx C:Addr} (h1:H x=none) (h2:H dx=none):Same H (upd (upd H dx (.own x)) x (.ins C dx [])):=by
 intro b o e;rw [ag (ay e h1),ag (ay e h2)];exact e
inductive IspGain (a:Ad) (kd:Kd) (vs:List V) (H:Hp) (Q:VK):Prop
 | mk (p:Addr) (n s g:Str) (vh vc:V) (q:Addr) (x:Rat) (h1:vs=[.ref p]) (h2:WayAt a H p kd n s g vh vc q x) (h3:SmR x) (h4:∀ r H',Same H H'->FrAt a.Fraction H' r (gainOf kd x)->Q (.ref r) H'):IspGain a kd vs H Q
noncomputable def spGain (a:Ad) (kd:Kd):Sp:=λ vs H Q _=>IspGain a kd vs H Q
theorem len_Gain {kd:Kd}:∀ vs H Q E,spGain a kd vs H Q E->vs.length=(["self"]:List Str).length:=λ vs H Q E h=>by
 obtain ⟨_,_,_,_,_,_,_,_,rfl,_⟩:=h;rfl
theorem gain_Growing (T:TX K mg a):MtB P w K mg base CX0 a.Growing "gain" 7 ["self"] (spGain a .gro):=by
 refine T.m_Growing_gain.ok sc_Growing_gain len_Gain (λ f cdv A outer s₀ H vs Q E hr h=>?_);obtain ⟨p,n,s,g,vh,vc,q,x,rfl,W,sx,k⟩:=h;refine ⟨_,(ae (av (aP (pv 0) rfl))),?_⟩;try dsimp only [aL,Cx.nox,Cx.wish]
 obtain ⟨dx,fs,ho,h5,hl⟩:=W.ob;exact ⟨_,rfl,p,_,dx,fs,_,rfl,ho,T.wG.cl,T.na_Growing_rate,hl (by nofun),k q H (Same.refl _) (W.fq (by nofun))⟩
end
end G
namespace G
open PySem L2
section
structure WD where
 nm:Str
 st:Str
 go:Str
 kd:Kd
 x:Rat
noncomputable def WayIs (a:Ad) (H:Hp) (v:V) (d:WD):Prop:=∃ p vh vc q,v=.ref p/\WayAt a H p d.kd d.nm d.st d.go vh vc q d.x/\d.kd≠.sto
theorem WayIs.mono {H H':Hp} {v:V} {d:WD} (h:WayIs a H v d) (s:Same H H'):WayIs a H' v d:=by
 obtain ⟨p,vh,vc,q,e,W,k⟩:=h
 exact ⟨p,vh,vc,q,e,W.mono s,k⟩
noncomputable def RowAt {α:Type} (R:Hp->V->α->Prop) (H:Hp) (ts:List V) (xs:List α):Prop:=ts.length=xs.length/\∀ (i:Nat) (t:V) (x:α),ts[i]?=some t->xs[i]?=some x->R H t x
theorem RowAt.mono {α:Type} {R:Hp->V->α->Prop} {H H':Hp} {ts:List V} {xs:List α} (hR:∀ v x,R H v x->R H' v x) (h:RowAt R H ts xs):RowAt R H' ts xs:=⟨h.1,λ i t x h1 h2=>hR t x (h.2 i t x h1 h2)⟩
theorem RowAt.nil {α:Type} {R:Hp->V->α->Prop} {H:Hp}:RowAt R H [] []:=⟨rfl,λ i t x h=>by simp at h⟩
theorem RowAt.snoc {α:Type} {R:Hp->V->α->Prop} {H:Hp} {ts:List V} {xs:List α} {t:V} {x:α} (d:RowAt R H ts xs) (hf:R H t x):RowAt R H (ts++[t]) (xs++[x]):=by
 refine ⟨by rw [fm,fm,d.1];rfl,λ i u z h1 h2=>?_⟩;by_cases hi:i<ts.length
 ·rw [List.getElem?_append_left hi] at h1;rw [List.getElem?_append_left (by rw [<- d.1];exact hi)] at h2;exact d.2 i u z h1 h2
 ·rw [fF (by omega)] at h1;rw [fF (by rw [<- d.1];omega),<- d.1] at h2
  have hz:i-ts.length=0:=by
   have:=(eG.mp h1).1
   simp at this;omega
  rw [hz] at h1 h2;simp at h1 h2;subst h1 h2;exact hf
theorem RowAt.get {α:Type} {R:Hp->V->α->Prop} {H:Hp} {ts:List V} {xs:List α} {i:Nat} {t:V} (d:RowAt R H ts xs) (h:ts[i]?=some t):∃ x,xs[i]?=some x/\R H t x:=by
 have hi:i<xs.length:=by rw [<- d.1];exact (eG.mp h).1
 exact ⟨xs[i],eI hi,d.2 i t _ h (eI hi)⟩
theorem RowAt.get' {α:Type} {R:Hp->V->α->Prop} {H:Hp} {ts:List V} {xs:List α} {i:Nat} {x:α} (d:RowAt R H ts xs) (h:xs[i]?=some x):∃ t,ts[i]?=some t/\R H t x:=by
 have hi:i<ts.length:=by rw [d.1];exact (eG.mp h).1
 exact ⟨ts[i],eI hi,d.2 i _ x (eI hi) h⟩
noncomputable def PlIs (a:Ad) (H:Hp) (v:V) (p:Str × Rat):Prop:=∃ t q,v=.ref t/\H t=some (.tup [.str p.1,.ref q])/\FrAt a.Fraction H q p.2
theorem PlIs.mono {H H':Hp} {v:V} {p:Str × Rat} (h:PlIs a H v p) (s:Same H H'):PlIs a H' v p:=by
 obtain ⟨t,q,e,h1,h2⟩:=h
 exact ⟨t,q,e,s _ _ h1,h2.mono s⟩
theorem ak {H:Hp} {d:Addr} {o:HO} (h:H d=none):Same H (upd H d o):=λ b u e=>by rw [ag (ay e h)];exact e
theorem uG {H:Hp} {e:Addr} {o:HO} (n:H e=none):∃ H',upd H e o=H'/\Same H H'/\H' e=some o:=⟨_,rfl,ak n,ac⟩
theorem b4 {H H':Hp} {d:Addr} {o:HO} (h:H d=none) (s:Same H H'):Same H (upd H' d o):=λ b u e=>by rw [ag (ay e h)];exact s _ _ e
theorem dM {κ:Type} [DecidableEq κ] {kvs:List (κ × V)} {k:κ} (h:¬ k∈kvs.map (·.1)):aZ kvs k=none:=by
 cases e:aZ kvs k with
 | none=>rfl
 | some v=>exact absurd (valV_in e) h
theorem val_some {κ:Type} [DecidableEq κ] {kvs:List (κ × V)} {k:κ} (h:k∈kvs.map (·.1)):∃ v,aZ kvs k=some v:=by
 cases e:aZ kvs k with
 | none=>exact absurd h (valV_not e)
 | some v=>exact ⟨v,rfl⟩
noncomputable def WantsAt (a:Ad) (H:Hp) (d:Addr) (ps:List (Str × Rat)):Prop:=∃ kvs,H d=some (.dK kvs)/\kvs.map (·.1)=ps.map (λ p=>Sum.inr p.1)/\RowAt (λ H v x=>∃ q,v=.ref q/\FrAt a.Fraction H q x) H (kvs.map (·.2)) (ps.map (·.2))
theorem WantsAt.mono {H H':Hp} {d:Addr} {ps:List (Str × Rat)} (h:WantsAt a H d ps) (s:Same H H'):WantsAt a H' d ps:=
 let ⟨kvs,h1,h2,h3⟩:=h;⟨kvs,s _ _ h1,h2,h3.mono λ v x ⟨q,e,f⟩=>⟨q,e,f.mono s⟩⟩
inductive IspWants (K:W.Frag) (a:Ad) (vs:List V) (H:Hp) (Q:VK):Prop
 | mk (l:Addr) (ts:List V) (ps:List (Str × Rat)) (h1:vs=[.ref l]) (h2:SqL K H l ts) (h3:RowAt (PlIs a) H ts ps) (h4:(ps.map (·.1)).Nodup) (h5:ps.length<=1000) (h6:∀ d H',H d=none->Same H H'->WantsAt a H' d ps->Q (.ref d) H'):IspWants K a vs H Q
noncomputable def spWants (K:W.Frag) (a:Ad):Sp:=λ vs H Q _=>IspWants K a vs H Q
theorem ok_wants_by_name (T:TX K mg a):FnB P w K mg base CX0 "wants_by_name" 1 ["places"] (spWants K a):=by
 refine T.d_wants_by_name.ok sc_wants_by_name (λ vs H Q E h=>?_) (λ f cdv A outer s H vs Q E hr h=>?_)
 ·obtain ⟨_,_,_,rfl,_⟩:=h;rfl
 ·obtain ⟨l,ts,ps,rfl,hS,hp,nd,hlen,k⟩:=h
  refine ⟨_,(ad (aD (i:=1) sc_wants_by_name.nd rfl (Or.inl rfl) bO)
   (ad (cW fU rfl (pi_list (pv 0)) (pg_tup (n:=2) rfl (dX (bt (i:=2) sc_wants_by_name.nd rfl (Or.inl rfl)) (dX (bt (i:=3) sc_wants_by_name.nd rfl (Or.inl rfl)) pgs_nil))) (ad (aB (bH (pc_din (bd hr) (pv 2) (pv 1))) (ae aO) aj)
   (ae (bX (bd hr) (pv 1) (pv 2) (pv 3) rfl))))
   (ae (av (pv 1))))),?_⟩
  try dsimp only [aL,Cx.nox,Cx.wish]
  intro d nd0;have s0:Same H (upd H d (.dK [])):=ak nd0;refine ⟨_,rfl,l,rfl,⟨_,s0.seq hS⟩,for_list (K:=K) (a:=l) (xs:=ts) (λ i σ H2=>i<=ps.length/\∃ z2 z3,σ=[some (.ref l),some (.ref d),z2,z3]/\Same H H2/\WantsAt a H2 d (ps.take i)) ⟨fP _,_,_,rfl,s0,[],ac,rfl,RowAt.nil⟩ (λ i σ H2 _ ⟨_,_,_,_,s2,_⟩=>s2.seq hS) ?_ ?_⟩
  ·rintro i t σ H2 ht ⟨hi,z2,z3,rfl,s2,kvs,hd,hk,hv⟩;obtain ⟨p,ep,t',q,rfl,h1,h2⟩:=hp.get ht;have hi':i<ps.length:=(eG.mp ep).1
   have nk:¬ (Sum.inr p.1:Key)∈kvs.map (·.1):=by
    rw [hk];intro m;obtain ⟨p',hp',e⟩:=eX.mp m;have e:p'.1=p.1:=Sum.inr.inj e;obtain ⟨j,hj⟩:=fO.mp hp'
    have hj2:j<i:=by
     have:=(eG.mp hj).1
     rw [fQ] at this;omega
    rw [List.getElem?_take,if_pos hj2] at hj;have g1:(ps.map (·.1))[j]?=some p.1:=by rw [eN,hj,fJ,e]
    have g2:(ps.map (·.1))[i]?=some p.1:=by rw [eN,ep,fJ]
    have:=(List.getElem?_inj (by rw [eB];omega) nd).mp (g1.trans g2.symm)
    omega
   refine ⟨t',[.str p.1,.ref q],rfl,SqT.of (s2 _ _ h1),rfl,.str p.1,[.ref q],rfl,⟨.ref q,[],rfl,⟨rfl,?_⟩⟩⟩;refine ⟨_,rfl,_,rfl,d,_,rfl,DGet.k (k:=Sum.inr p.1) hd,_,rfl,?_⟩;rw [dM nk];refine iteF ?_
   have hl:kvs.length=i:=by
    have:=fv List.length hk
    rw [eB,eB,fQ] at this;omega
   refine ⟨_,rfl,_,rfl,_,rfl,d,_,rfl,DPut.k (k:=Sum.inr p.1) hd (a9 (by omega)),?_⟩;rw [putK_new _ (dM nk)];have s3:=b4 (o:=.dK (kvs++[(Sum.inr p.1,.ref q)])) nd0 s2;refine ⟨hi',_,_,rfl,s3,kvs++[(Sum.inr p.1,.ref q)],ac,?_,?_⟩
   ·rw [fo,hk,List.take_add_one,ep,fY,fo];rfl
   ·rw [fo,List.take_add_one,ep,fY,fo];refine RowAt.snoc (hv.mono λ v x ⟨q',e,dq,f⟩=>⟨q',e,dq,?_⟩) ⟨q,rfl,h2.mono s3⟩;rw [ag (cy f hd (by intro z;cases z))];exact f
  ·rintro σ H2 ⟨_,z2,z3,rfl,s2,hw⟩;rw [hp.1,List.take_length] at hw;exact ⟨_,rfl,k d H2 nd0 s2 hw⟩
inductive IspCheck (a:Ad) (vs:List V) (H:Hp) (Q:VK):Prop
 | mk (v:V) (d:WD) (da dw:Addr) (ka kw:List (Key × V)) (h1:vs=[v,.ref da,.ref dw]) (h2:WayIs a H v d) (h3:H da=some (.dK ka)) (h4:H dw=some (.dK kw)) (h5:¬ (Sum.inr d.nm:Key)∈ka.map (·.1)) (h6:(Sum.inr d.st:Key)∈kw.map (·.1)) (h7:(Sum.inr d.go:Key)∈kw.map (·.1)) (h8:∀ H',Same H H'->Q .non H'):IspCheck a vs H Q
noncomputable def spCheck (a:Ad):Sp:=λ vs H Q _=>IspCheck a vs H Q
theorem noStore (T:TX K mg a) {kd:Kd} (h:kd≠.sto):PySem.W.kitOne K (.ref (kd.C a)) (.ref a.Store)=some false:=by
 cases kd
 ·exact T.k_Way_Store
 ·exact T.k_Growing_Store
 ·exact T.k_Leaking_Store
 ·exact absurd rfl h
theorem tyWay (T:TX K mg a) {H:Hp} {p dx:Addr} {fs:List (Str × V)} {kd:Kd} (h:H p=some (.ins (kd.C a) dx fs)):TyOf K H (.ref p) (.ref (kd.C a)):=by
 have c:=(cls_any T kd).cl
 cases kd
 ·exact TyOf.ins h c T.c1_Way T.c2 T.c3 T.c4_Way
 ·exact TyOf.ins h c T.c1_Growing T.c2 T.c3 T.c4_Growing
 ·exact TyOf.ins h c T.c1_Leaking T.c2 T.c3 T.c4_Leaking
 ·exact TyOf.ins h c T.c1_Store T.c2 T.c3 T.c4_Store
theorem ok_check_way (T:TX K mg a):FnB P w K mg base CX0 "check_way" 1 ["way","ahead","wants"] (spCheck a):=by
 refine T.d_check_way.ok sc_check_way (λ vs H Q E h=>?_) (λ f cdv A outer s H vs Q E hr h=>?_)
 ·obtain ⟨_,_,_,_,_,_,rfl,_⟩:=h;rfl
 ·obtain ⟨v,d,da,dw,ka,kw,rfl,⟨p,vh,vc,q,rfl,W,hk⟩,ha,hw,n1,n2,n3,k⟩:=h
  refine ⟨_,(ad (aB (bg (az (c8 (c:=.ref a.Store)) (by rfl) T.z_isinstance eE (aa (pv 0) (aa (aY (v:=.ref a.Store) (by rfl) T.mg_Store rfl) af)))) (ae aO) aj)
   (ad (aB (bH (pc_din (bd hr) (aP (pv 0) rfl) (pv 1))) (ae aO) aj)
   (ae (cW fU rfl (pi_tup (b8 (aa (aP (pv 0) rfl) (aa (aP (pv 0) rfl) af)))) (bt (i:=3) sc_check_way.nd rfl (Or.inl rfl)) (ae (aB (bH (bj (bd hr) (pv 3) (pv 2))) (ae aO) aj)))))),?_⟩
  try dsimp only [aL,Cx.nox,Cx.wish]
  obtain ⟨dx,fs,ho,h5,_⟩:=W.ob;have c:=cls_any T d.kd;refine ⟨_,rfl,_,_,_,_,rfl,(λ u h=>h),tyWay T ho,noStore T hk,_,rfl,iteF ?_⟩;refine ⟨_,rfl,p,_,dx,fs,_,rfl,ho,c.cl,c.n1,h5.nm,_,rfl,da,_,rfl,DGet.k (k:=Sum.inr d.nm) ha,_,rfl,?_⟩;rw [dM n1];refine iteF ?_;refine ⟨_,rfl,p,_,dx,fs,_,rfl,ho,c.cl,c.n2,h5.st,_,rfl,p,_,dx,fs,_,rfl,ho,c.cl,c.n3,h5.go,zL2,λ t nt=>?_⟩;have s1:=ak (o:=.tup [.str d.st,.str d.go]) nt;refine ⟨t,rfl,⟨_,SqT.of ac⟩,for_tup (K:=K) (a:=t) (xs:=[.str d.st,.str d.go]) (λ i σ H2=>∃ z,σ=[some (.ref p),some (.ref da),some (.ref dw),z]/\H2=upd H t (.tup [.str d.st,.str d.go])) ⟨_,rfl,rfl⟩ (λ i σ H2 _ ⟨_,_,e⟩=>by rw [e];exact SqT.of ac) ?_ ?_⟩
  ·rintro i x σ H2 hx ⟨z,rfl,rfl⟩
   have hx:∃ y,x=.str y/\(Sum.inr y:Key)∈kw.map (·.1):=by
    match i,hx with
    | 0,hx=>exact ⟨d.st,(eZ hx).symm,n2⟩
    | 1,hx=>exact ⟨d.go,(eZ hx).symm,n3⟩
    | i+2,hx=>simp at hx
   obtain ⟨y,rfl,hy⟩:=hx;obtain ⟨u,hu⟩:=val_some hy;refine ⟨_,rfl,_,rfl,dw,_,rfl,DGet.k (k:=Sum.inr y) (s1 _ _ hw),_,rfl,?_⟩;rw [hu];exact iteF ⟨_,rfl,rfl⟩
  ·rintro σ H2 ⟨z,rfl,rfl⟩;exact k _ s1
noncomputable def WaysAt (a:Ad) (H:Hp) (d:Addr) (ds:List WD):Prop:=∃ kvs,H d=some (.dK kvs)/\kvs.map (·.1)=ds.map (λ x=>Sum.inr x.nm)/\RowAt (WayIs a) H (kvs.map (·.2)) ds
theorem WaysAt.mono {H H':Hp} {d:Addr} {ds:List WD} (h:WaysAt a H d ds) (s:Same H H'):WaysAt a H' d ds:=
 let ⟨kvs,h1,h2,h3⟩:=h;⟨kvs,s _ _ h1,h2,h3.mono λ v x z=>z.mono s⟩
inductive IspWaysBy (K:W.Frag) (a:Ad) (vs:List V) (H:Hp) (Q:VK):Prop
 | mk (l dw:Addr) (ts:List V) (ds:List WD) (ps:List (Str × Rat)) (h1:vs=[.ref l,.ref dw]) (h2:SqL K H l ts) (h3:RowAt (WayIs a) H ts ds) (h4:WantsAt a H dw ps) (h5:(ds.map (·.nm)).Nodup) (h6:ds.length<=1000) (h7:(∀ d∈ds,d.st∈ps.map (·.1)/\d.go∈ps.map (·.1))) (h8:∀ d H',H d=none->Same H H'->WaysAt a H' d ds->Q (.ref d) H'):IspWaysBy K a vs H Q
noncomputable def spWaysBy (K:W.Frag) (a:Ad):Sp:=λ vs H Q _=>IspWaysBy K a vs H Q
theorem WayIs.keep {H H':Hp} {v:V} {x:WD} (h:WayIs a H v x) (k:Stays a H H'):WayIs a H' v x:=by
 obtain ⟨p,vh,vc,q,e,W,hk⟩:=h
 exact ⟨p,vh,vc,q,e,W.keep k,hk⟩
theorem WayIs.put {H:Hp} {v:V} {x:WD} {d:Addr} {kvs:List (Key × V)} {o:HO} (h:WayIs a H v x) (hd:H d=some (.dK kvs)):WayIs a (upd H d o) v x:=h.keep (.put hd (by intro _ _ _ z;cases z))
theorem nodup_take {α β:Type} {xs:List α} {f:α->β} {i:Nat} {x:α} (nd:(xs.map f).Nodup) (e:xs[i]?=some x):¬ f x∈(xs.take i).map f:=by
 intro m;obtain ⟨y,hy,ef⟩:=eX.mp m;obtain ⟨j,hj⟩:=fO.mp hy;have hi:=(eG.mp e).1
 have hj2:j<i:=by
  have:=(eG.mp hj).1
  rw [fQ] at this;omega
 rw [List.getElem?_take,if_pos hj2] at hj;have g1:(xs.map f)[j]?=some (f x):=by rw [eN,hj,fJ,ef]
 have g2:(xs.map f)[i]?=some (f x):=by rw [eN,e,fJ]
 have:=(List.getElem?_inj (by rw [eB];omega) nd).mp (g1.trans g2.symm)
 omega
theorem inr_mem {n:Str} {ns:List Str}:(Sum.inr n:Key)∈ns.map (λ x=>(Sum.inr x:Key))↔n∈ns:=by
 constructor
 ·intro h;obtain ⟨y,hy,e⟩:=eX.mp h;rw [<- Sum.inr.inj e];exact hy
 ·exact λ h=>eX.mpr ⟨n,h,rfl⟩
theorem ok_ways_by_name (T:TX K mg a):FnB P w K mg base CX0 "ways_by_name" 2 ["ways","wants"] (spWaysBy K a):=by
 refine T.d_ways_by_name.ok sc_ways_by_name (λ vs H Q E h=>?_) (λ f cdv A outer s H vs Q E hr h=>?_)
 ·obtain ⟨_,_,_,_,_,rfl,_⟩:=h;rfl
 ·obtain ⟨l,dw,ts,ds,ps,rfl,hS,hp,hw,nd,hlen,hin,k⟩:=h
  refine ⟨_,(ad (aD (i:=2) sc_ways_by_name.nd rfl (Or.inl rfl) bO)
   (ad (cW fU rfl (pi_list (pv 0)) (bt (i:=3) sc_ways_by_name.nd rfl (Or.inl rfl)) (ad (bf (aN (ok_check_way T) hr aC (aa (pv 3) (aa (pv 2) (aa (pv 1) af)))))
   (ae (bX (bd hr) (pv 2) (aP (pv 3) rfl) (pv 3) rfl))))
   (ae (av (pv 2))))),?_⟩
  try dsimp only [aL,Cx.nox,Cx.wish]
  intro d nd0;have s0:Same H (upd H d (.dK [])):=ak nd0;refine ⟨_,rfl,l,rfl,⟨_,s0.seq hS⟩,for_list (K:=K) (a:=l) (xs:=ts) (λ i σ H2=>i<=ds.length/\∃ z3,σ=[some (.ref l),some (.ref dw),some (.ref d),z3]/\Same H H2/\WaysAt a H2 d (ds.take i)) ⟨fP _,_,rfl,s0,[],ac,rfl,RowAt.nil⟩ (λ i σ H2 _ ⟨_,_,_,s2,_⟩=>s2.seq hS) ?_ ?_⟩
  ·rintro i t σ H2 ht ⟨hi,z3,rfl,s2,kvs,hd,hk,hv⟩;obtain ⟨x,ex,hx⟩:=hp.get ht;have hi':i<ds.length:=(eG.mp ex).1
   have nk:¬ (Sum.inr x.nm:Key)∈kvs.map (·.1):=by
    rw [hk]
    have:=nodup_take (f:=λ z:WD=>(Sum.inr z.nm:Key)) (by
     rw [show (λ z:WD=>(Sum.inr z.nm:Key))=(λ n=>(Sum.inr n:Key)) ∘ (λ z:WD=>z.nm) from rfl,<- ft];exact nd.map _ (λ u v h e=>h (Sum.inr.inj e))) ex
    exact this
   obtain ⟨kw,hkw,ekw,_⟩:=hw.mono s2;obtain ⟨i1,i2⟩:=hin x (fk ex);have ekw':kw.map (·.1)=(ps.map (·.1)).map (λ n=>(Sum.inr n:Key)):=by rw [ekw,ft];rfl
   refine ⟨_,rfl,_,rfl,_,rfl,t,x,d,dw,kvs,kw,rfl,hx.mono s2,hd,hkw,nk,by rw [ekw'];exact inr_mem.mpr i1,by rw [ekw'];exact inr_mem.mpr i2,λ H3 s3=>?_⟩;have hd3:=s3 _ _ hd;have hx3:=hx.mono (s2.trans s3);obtain ⟨p,vh,vc,q,rfl,W,hkd⟩:=id hx3;obtain ⟨dx,fs,ho,h5,_⟩:=W.ob;have c:=cls_any T x.kd
   have hl:kvs.length=i:=by
    have:=fv List.length hk
    rw [eB,eB,fQ] at this;omega
   refine ⟨_,rfl,_,rfl,_,rfl,p,_,dx,fs,_,rfl,ho,c.cl,c.n1,h5.nm,d,_,rfl,DPut.k (k:=Sum.inr x.nm) hd3 (a9 (by omega)),?_⟩;rw [putK_new _ (dM nk)];have s4:=b4 (o:=.dK (kvs++[(Sum.inr x.nm,.ref p)])) nd0 (s2.trans s3);refine ⟨hi',_,rfl,s4,kvs++[(Sum.inr x.nm,.ref p)],ac,?_,?_⟩
   ·rw [fo,hk,List.take_add_one,ex,fY,fo];rfl
   ·rw [fo,List.take_add_one,ex,fY];exact RowAt.snoc (hv.mono λ v y z=>(z.mono s3).put hd3) (hx3.put hd3)
  ·rintro σ H2 ⟨_,z3,rfl,s2,hw2⟩;rw [hp.1,List.take_length] at hw2;exact ⟨_,rfl,k d H2 nd0 s2 hw2⟩
noncomputable def fsN (dw dy:Addr):List (Str × V):=[("wants",.ref dw),("ways",.ref dy)]
theorem fsN_new (dw dy:Addr):aF "ways" (.ref dy) (aF "wants" (.ref dw) [])=fsN dw dy:=by
 show (if ("wants":Str) = "ways" then _ else (("wants":Str),V.ref dw)::[(("ways":Str),V.ref dy)])=fsN dw dy;rw [if_neg (by decide +kernel)];rfl
theorem fsN_w (dw dy:Addr):(fsN dw dy).lookup ("wants":Str)=some (.ref dw):=rfl
theorem fsN_y (dw dy:Addr):(fsN dw dy).lookup ("ways":Str)=some (.ref dy):=by
 show List.lookup ("ways":Str) [(("wants":Str),V.ref dw),("ways",V.ref dy)]=_;rw [fb,show (("ways":Str) == "wants")=false by decide +kernel];rfl
theorem fsN_no (dw dy:Addr) {m:Str} (h1:(m == "wants")=false) (h2:(m == "ways")=false):(fsN dw dy).lookup m=none:=by
 show List.lookup m [(("wants":Str),V.ref dw),("ways",V.ref dy)]=_;rw [fb,h1,fb,h2];rfl
noncomputable def NetAt (a:Ad) (H:Hp) (p:Addr) (ps:List (Str × Rat)) (ds:List WD):Prop:=∃ dx dw dy,H p=some (.ins a.Net dx (fsN dw dy))/\WantsAt a H dw ps/\WaysAt a H dy ds
theorem NetAt.mono {H H':Hp} {p:Addr} {ps:List (Str × Rat)} {ds:List WD} (h:NetAt a H p ps ds) (s:Same H H'):NetAt a H' p ps ds:=by
 obtain ⟨dx,dw,dy,e,h1,h2⟩:=h
 exact ⟨dx,dw,dy,s _ _ e,h1.mono s,h2.mono s⟩
noncomputable def NetNew (a:Ad) (H H':Hp) (p:Addr) (ps:List (Str × Rat)) (ds:List WD):Prop:=∃ dx dw dy,H' p=some (.ins a.Net dx (fsN dw dy))/\WantsAt a H' dw ps/\WaysAt a H' dy ds/\H dw=none/\H dy=none
theorem NetNew.at_ {H H':Hp} {p:Addr} {ps:List (Str × Rat)} {ds:List WD} (h:NetNew a H H' p ps ds):NetAt a H' p ps ds:=by
 obtain ⟨dx,dw,dy,h1,h2,h3,_⟩:=h
 exact ⟨dx,dw,dy,h1,h2,h3⟩
structure NetOk (ps:List (Str × Rat)) (ds:List WD):Prop where
 np:(ps.map (·.1)).Nodup
 lp:ps.length<=12
 nd:(ds.map (·.nm)).Nodup
 ld:ds.length<=24
 io:∀ d∈ds,d.st∈ps.map (·.1)/\d.go∈ps.map (·.1)
inductive IspNetI (K:W.Frag) (a:Ad) (vs:List V) (H:Hp) (Q:VK):Prop
 | mk (p dx lp lw:Addr) (tp tw:List V) (ps:List (Str × Rat)) (ds:List WD) (h1:vs=[.ref p,.ref lp,.ref lw]) (h2:H p=some (.ins a.Net dx [])) (h3:SqL K H lp tp) (h4:RowAt (PlIs a) H tp ps) (h5:SqL K H lw tw) (h6:RowAt (WayIs a) H tw ds) (h7:NetOk ps ds) (h8:∀ H',(∀ b o,H b=some o->b≠p->H' b=some o)->NetNew a H H' p ps ds->Q .non H'):IspNetI K a vs H Q
noncomputable def spNetI (K:W.Frag) (a:Ad):Sp:=λ vs H Q _=>IspNetI K a vs H Q
theorem WantsAt.ins {H:Hp} {d p C dx:Addr} {fs gs:List (Str × V)} {ps:List (Str × Rat)} (h:WantsAt a H d ps) (hp:H p=some (.ins C dx fs)) (hC:C≠a.Fraction):WantsAt a (upd H p (.ins C dx gs)) d ps:=by
 obtain ⟨kvs,h1,h2,h3⟩:=h;refine ⟨kvs,by rw [ag (cy h1 hp (by intro z;cases z))];exact h1,h2,h3.mono λ v x ⟨q,e,dq,f⟩=>⟨q,e,dq,?_⟩⟩;rw [ag (cy f hp (by intro z;cases z;exact hC rfl))];exact f
theorem Stays.ins {H:Hp} {p C dx:Addr} {fs gs:List (Str × V)} (hp:H p=some (.ins C dx fs)) (hC:C≠a.Fraction/\∀ kd:Kd,C≠kd.C a):Stays a H (upd H p (.ins C dx gs)):=λ b C' dx' fs' h e=>by
 rw [ag (cy e hp λ z=>?_)]
 ·exact e
 ·have ec:=(HO.ins.inj z).1;rcases h with rfl | ⟨kd,rfl⟩
  ·exact hC.1 ec.symm
  ·exact hC.2 kd ec.symm
theorem WaysAt.ins {H:Hp} {d p C dx:Addr} {fs gs:List (Str × V)} {ds:List WD} (h:WaysAt a H d ds) (hp:H p=some (.ins C dx fs)) (hC:C≠a.Fraction/\∀ kd:Kd,C≠kd.C a):WaysAt a (upd H p (.ins C dx gs)) d ds:=by
 obtain ⟨kvs,h1,h2,h3⟩:=h;exact ⟨kvs,by rw [ag (cy h1 hp (by intro z;cases z))];exact h1,h2,h3.mono λ v x z=>z.keep (.ins hp hC)⟩
theorem netC (T:TX K mg a):a.Net≠a.Fraction/\∀ kd:Kd,a.Net≠kd.C a:=by
 have w1:a.Net≠a.Fraction:=λ e=>by
  have h:=T.na_Fraction_top;have h2:=T.m_Fraction_sign;rw [<- e] at h2;obtain ⟨f,fd,_,⟨m,_,_⟩,_⟩:=h2
  cases T.no_Net_sign.symm.trans m
 refine ⟨w1,λ kd e=>?_⟩
 have:=T.no_Net_may_stay
 cases kd
 ·obtain ⟨f,fd,_,⟨m,_,_⟩,_⟩:=T.m_Way_may_stay;rw [show a.Way=a.Net from e.symm] at m
  cases this.symm.trans m
 ·obtain ⟨f,fd,_,⟨m,_,_⟩,_⟩:=T.m_Growing_may_stay;rw [show a.Growing=a.Net from e.symm] at m
  cases this.symm.trans m
 ·obtain ⟨f,fd,_,⟨m,_,_⟩,_⟩:=T.m_Leaking_may_stay;rw [show a.Leaking=a.Net from e.symm] at m
  cases this.symm.trans m
 ·obtain ⟨f,fd,_,⟨m,_,_⟩,_⟩:=T.m_Store_may_stay;rw [show a.Store=a.Net from e.symm] at m
  cases this.symm.trans m
theorem mk_Net (T:TX K mg a):MkB P w K mg base CX0 a.Net 4 ["self","places","ways"] [] (spNetI K a):=by
 refine T.i_Net.ok sc_Net_init (λ vs H Q E h=>?_) (λ f cdv A outer s H vs Q E hr h=>?_) _ (by simp)
 ·obtain ⟨_,_,_,_,_,_,_,_,rfl,_⟩:=h;rfl
 ·obtain ⟨p,dx,lp,lw,tp,tw,ps,ds,rfl,hp,hS,hP,hL,hW,ok,k⟩:=h
  refine ⟨_,(ad (aB (PW.pt (pw_or (aq op_gt (az cB (by rfl) T.z_len f6 (aa (pv 1) af)) (pe_gi T.gi_MOST_PLACES) (aw _)) (pw_or1 (aq op_gt (az cB (by rfl) T.z_len f6 (aa (pv 2) af)) (pe_gi T.gi_MOST_WAYS) (aw _))))) (ae aO) aj)
   (ad (bn (pv 0) (aN (ok_wants_by_name T) hr aC (aa (pv 1) af)) rfl)
   (ae (bn (pv 0) (aN (ok_ways_by_name T) hr aC (aa (pv 2) (aa (aP (pv 0) rfl) af))) rfl)))),?_⟩
  try dsimp only [aL,Cx.nox,Cx.wish]
  have e1:(tp.length:Int)<=12:=by have:=ok.lp;rw [<- hP.1] at this;omega
  have e2:(tw.length:Int)<=24:=by have:=ok.ld;rw [<- hW.1] at this;omega
  refine ⟨_,rfl,lp,tp,rfl,.inl hS,_,_,rfl,rfl,_,rfl,aU (eD (by omega)) ?_⟩;refine ⟨_,rfl,lw,tw,rfl,.inl hL,_,_,rfl,rfl,_,rfl,aU (eD (by omega)) ?_⟩;refine ⟨_,rfl,lp,tp,ps,rfl,hS,hP,ok.np,eQ ok.lp (by decide),λ dw H1 n1 s1 hw1=>?_⟩;have hp1:=s1 _ _ hp;refine ⟨_,rfl,p,a.Net,dx,[],rfl,hp1,T.cl_Net,T.na_Net_wants,by decide,?_⟩;have hC:=netC T;generalize hH2:upd H1 p (.ins a.Net dx (aF "wants" (.ref dw) []))=H2;have hp2:H2 p=some (.ins a.Net dx (aF "wants" (.ref dw) [])):=by rw [<- hH2];exact ac
  have hw2:WantsAt a H2 dw ps:=by rw [<- hH2];exact hw1.ins hp1 hC.1
  have k2:∀ b o,H b=some o->b≠p->H2 b=some o:=λ b o e ne=>by rw [<- hH2,ag ne];exact s1 _ _ e
  have hL2:SqL K H2 lw tw:=by
   rcases hL with (h | ⟨o,h⟩) | h
   ·exact .inl (.inl (k2 _ _ h (cy h hp (by intro z;cases z))))
   ·exact .inl (.inr ⟨o,k2 _ _ h (cy h hp (by intro z;cases z))⟩)
   ·exact .inr h
  have hW2:RowAt (WayIs a) H2 tw ds:=hW.mono λ v x z=>z.keep λ b C' dx' fs' h e=>k2 _ _ e (cy e hp λ y=>by
   have ec:=(HO.ins.inj y).1;rcases h with rfl | ⟨kd,rfl⟩
   ·exact hC.1 ec.symm
   ·exact hC.2 kd ec.symm)
  refine ⟨_,rfl,_,rfl,p,_,dx,_,_,rfl,hp2,T.cl_Net,T.na_Net_wants,rfl,lw,dw,tw,ds,ps,rfl,hL2,hW2,hw2,ok.nd,eQ ok.ld (by decide),ok.io,λ dy H3 n3 s3 hy3=>?_⟩;have hp3:=s3 _ _ hp2;refine ⟨_,rfl,p,a.Net,dx,_,rfl,hp3,T.cl_Net,T.na_Net_ways,eS (aG (eC 0)) (by decide),?_⟩;rw [fsN_new];refine k _ (λ b o e ne=>?_) ⟨dx,dw,dy,ac,(hw2.mono s3).ins hp3 hC.1,hy3.ins hp3 hC,n1,?_⟩
  case refine_2=>
   have nyp:dy≠p:=λ z=>by rw [z,hp2] at n3;cases n3
   have:H1 dy=none:=by rw [<- hH2,ag nyp] at n3;exact n3
   exact s1.free this
  rw [ag ne];exact s3 _ _ (k2 _ _ e ne)
theorem WaysAt.get {H:Hp} {dy:Addr} {ds:List WD} {d:WD} (h:WaysAt a H dy ds) (nd:(ds.map (·.nm)).Nodup) (hd:d∈ds):∃ kvs v,H dy=some (.dK kvs)/\aZ kvs (Sum.inr d.nm)=some v/\WayIs a H v d:=by
 obtain ⟨kvs,h1,h2,h3⟩:=h;obtain ⟨i,hi⟩:=fO.mp hd;obtain ⟨t,ht,hw⟩:=h3.get' hi;have hil:=(eG.mp hi).1;rw [eN] at ht
 cases e:kvs[i]? with
 | none=>rw [e] at ht;cases ht
 | some kv=>
  rw [e] at ht;have e2:kv.2=t:=eZ ht
  have e1:kv.1=Sum.inr d.nm:=by
   have g1:(kvs.map (·.1))[i]?=some kv.1:=by rw [eN,e];rfl
   rw [h2,eN,hi] at g1;exact (eZ g1).symm
  refine ⟨kvs,t,h1,?_,hw⟩;obtain ⟨v,hv⟩:=val_some (kvs:=kvs) (k:=(Sum.inr d.nm:Key)) (eX.mpr ⟨kv,fk e,e1⟩);rw [hv];unfold aZ at hv
  cases f:kvs.find? (λ kv=>decide (kv.1=(Sum.inr d.nm:Key))) with
  | none=>rw [f] at hv;cases hv
  | some kv'=>
   rw [f] at hv;have hp:=List.find?_some f;have m:=List.mem_of_find?_eq_some f;obtain ⟨j,hj⟩:=fO.mp m;have ej:kv'.1=Sum.inr d.nm:=of_decide_eq_true hp
   have nd2:(kvs.map (·.1)).Nodup:=by
    rw [h2,show (λ z:WD=>(Sum.inr z.nm:Key))=(λ n=>(Sum.inr n:Key)) ∘ (λ z:WD=>z.nm) from rfl,<- ft];exact nd.map _ (λ u v h e=>h (Sum.inr.inj e))
   have g1:(kvs.map (·.1))[j]?=some (Sum.inr d.nm):=by rw [eN,hj,fJ,ej]
   have g2:(kvs.map (·.1))[i]?=some (Sum.inr d.nm):=by rw [eN,e,fJ,e1]
   have ij:=(List.getElem?_inj (by rw [eB];exact (eG.mp hj).1) nd2).mp (g1.trans g2.symm);subst ij;rw [hj] at e
   cases e;rw [<- e2];exact hv.symm
inductive IspNetWay (a:Ad) (vs:List V) (H:Hp) (Q:VK):Prop
 | mk (p:Addr) (ps:List (Str × Rat)) (ds:List WD) (d:WD) (h1:vs=[.ref p,.str d.nm]) (h2:NetAt a H p ps ds) (h3:(ds.map (·.nm)).Nodup) (h4:d∈ds) (h5:∀ v,WayIs a H v d->Q v H):IspNetWay a vs H Q
noncomputable def spNetWay (a:Ad):Sp:=λ vs H Q _=>IspNetWay a vs H Q
theorem ok_Net_way (T:TX K mg a):MtB P w K mg base CX0 a.Net "way" 1 ["self","name"] (spNetWay a):=by
 refine T.m_Net_way.ok sc_Net_way (λ vs H Q E h=>?_) (λ f cdv A outer s H vs Q E hr h=>?_)
 ·obtain ⟨_,_,_,_,rfl,_⟩:=h;rfl
 ·obtain ⟨p,ps,ds,d,rfl,⟨dx,dw,dy,hp,hw,hy⟩,nd,hd,k⟩:=h
  refine ⟨_,(ad (aB (bH (bj (bd hr) (pv 1) (aP (pv 0) rfl))) (ae aO) aj)
   (ae (av (db (bd hr) (aP (pv 0) rfl) (pv 1) (λ _ _=>rfl))))),?_⟩
  try dsimp only [aL,Cx.nox,Cx.wish]
  obtain ⟨kvs,v,h1,h2,h3⟩:=hy.get nd hd;refine ⟨_,rfl,_,rfl,p,_,dx,_,_,rfl,hp,T.cl_Net,T.na_Net_ways,fsN_y _ _,dy,_,rfl,DGet.k (k:=Sum.inr d.nm) h1,_,rfl,?_⟩;rw [h2];refine iteF ?_;refine ⟨_,rfl,p,_,dx,_,_,rfl,hp,T.cl_Net,T.na_Net_ways,fsN_y _ _,_,rfl,dy,v,rfl,?_,k v h3⟩;rw [<- h2];exact DGet.k (k:=Sum.inr d.nm) h1
end
end G
namespace G
open PySem L2
section
inductive IspNNames (a:Ad) (vs:List V) (H:Hp) (Q:VK):Prop
 | mk (p:Addr) (ps:List (Str × Rat)) (ds:List WD) (h1:vs=[.ref p]) (h2:NetAt a H p ps ds) (h3:∀ l,H l=none->Q (.ref l) (upd H l (.lst (ps.map λ x=>V.str x.1)))):IspNNames a vs H Q
noncomputable def spNNames (a:Ad):Sp:=λ vs H Q _=>IspNNames a vs H Q
theorem ok_Net_names (T:TX K mg a):MtB P w K mg base CX0 a.Net "names" 1 ["self"] (spNNames a):=by
 refine T.m_Net_names.ok sc_Net_names (λ vs H Q E h=>?_) (λ f cdv A outer s H vs Q E hr h=>?_)
 ·obtain ⟨_,_,_,rfl,_⟩:=h;rfl
 ·obtain ⟨p,ps,ds,rfl,⟨dx,dw,dy,hp,⟨kvs,h1,h2,h3⟩,hy⟩,k⟩:=h;refine ⟨_,(ae (av (aQ (ce hr.hd) (by rfl) T.z_list fT (aa (aP (pv 0) rfl) af)))),?_⟩;try dsimp only [aL,Cx.nox,Cx.wish]
  refine ⟨_,rfl,p,_,dx,_,_,rfl,hp,T.cl_Net,T.na_Net_wants,fsN_w _ _,dw,kvs,rfl,.inl h1,λ l nl=>?_⟩
  have e:(kvs.map λ kv=>kV kv.1)=ps.map λ x=>V.str x.1:=by
   have:=fv (List.map kV) h2
   rw [ft,ft] at this;exact this
  rw [e];exact k l nl
inductive IspNAll (a:Ad) (vs:List V) (H:Hp) (Q:VK):Prop
 | mk (p:Addr) (ps:List (Str × Rat)) (ds:List WD) (h1:vs=[.ref p]) (h2:NetAt a H p ps ds) (h3:∀ l H' ts,H l=none->Same H H'->H' l=some (.lst ts)->RowAt (WayIs a) H' ts ds->Q (.ref l) H'):IspNAll a vs H Q
noncomputable def spNAll (a:Ad):Sp:=λ vs H Q _=>IspNAll a vs H Q
theorem ok_Net_all_ways (T:TX K mg a):MtB P w K mg base CX0 a.Net "all_ways" 1 ["self"] (spNAll a):=by
 refine T.m_Net_all_ways.ok sc_Net_all_ways (λ vs H Q E h=>?_) (λ f cdv A outer s H vs Q E hr h=>?_)
 ·obtain ⟨_,_,_,rfl,_⟩:=h;rfl
 ·obtain ⟨p,ps,ds,rfl,⟨dx,dw,dy,hp,hw,⟨kvs,h1,h2,h3⟩⟩,k⟩:=h;refine ⟨_,(ae (av (aQ (c7 hr.hd) (by rfl) T.z_list fT (aa (pe_bm0 fR PySem.F.slot_dict_values PySem.F.type_dict_values mt_values (aP (pv 0) rfl)) af)))),?_⟩;try dsimp only [aL,Cx.nox,Cx.wish]
  refine ⟨_,rfl,p,_,dx,_,_,rfl,hp,T.cl_Net,T.na_Net_ways,fsN_y _ _,(.inr (.inr (.inl ⟨rfl,.inl ⟨kvs,h1⟩⟩))),dy,kvs,rfl,rfl,.inl h1,λ v nv=>?_⟩;have s1:=ak (o:=dB v dy) nv;refine ⟨v,dy,kvs,rfl,ac,.inl (s1 _ _ h1),λ l nl=>?_⟩;have s2:=s1.trans (ak (o:=.lst (kvs.map (·.2))) nl);exact k l _ _ (s1.free nl) s2 ac (h3.mono λ v x z=>z.mono s2)
end
end G
namespace G
open PySem L2
section
theorem kv_at {κ:Type} [DecidableEq κ]:∀ {kvs:List (κ × V)} {i:Nat} {kv:κ × V},(kvs.map (·.1)).Nodup->kvs[i]?=some kv->aZ kvs kv.1=some kv.2
 | [],_,_,_,e=>by simp at e
 | p::r,0,kv,_,e=>by
  simp at e;subst e;exact aX rfl
 | p::r,i+1,kv,nd,e=>by
  have e:r[i]?=some kv:=by simpa using e
  obtain ⟨h1,h2⟩:=List.nodup_cons.mp (show (p.1::r.map (·.1)).Nodup from nd);rw [aV λ z=>h1 (by rw [z];exact eX.mpr ⟨kv,fk e,rfl⟩)];exact kv_at h2 e
theorem WantsAt.at_ {H:Hp} {dw:Addr} {ps:List (Str × Rat)} {i:Nat} {p:Str × Rat} (h:WantsAt a H dw ps) (nd:(ps.map (·.1)).Nodup) (hi:ps[i]?=some p):∃ kvs q,H dw=some (.dK kvs)/\aZ kvs (Sum.inr p.1)=some (.ref q)/\FrAt a.Fraction H q p.2:=by
 obtain ⟨kvs,h1,h2,h3⟩:=h;obtain ⟨t,ht,q,rfl,fq⟩:=h3.get' (i:=i) (x:=p.2) (by rw [eN,hi];rfl);rw [eN] at ht
 cases e:kvs[i]? with
 | none=>rw [e] at ht;cases ht
 | some kv=>
  rw [e] at ht;have e2:kv.2=.ref q:=eZ ht
  have e1:kv.1=Sum.inr p.1:=by
   have g1:(kvs.map (·.1))[i]?=some kv.1:=by rw [eN,e];rfl
   rw [h2,eN,hi] at g1;exact (eZ g1).symm
  have nd2:(kvs.map (·.1)).Nodup:=by
   rw [h2,show (λ z:Str × Rat=>(Sum.inr z.1:Key))=(λ n=>(Sum.inr n:Key)) ∘ (λ z:Str × Rat=>z.1) from rfl,<- ft];exact nd.map _ (λ u v h e=>h (Sum.inr.inj e))
  refine ⟨kvs,q,h1,?_,fq⟩;rw [<- e1,<- e2];exact kv_at nd2 e
inductive IspNWant (a:Ad) (vs:List V) (H:Hp) (Q:VK):Prop
 | mk (p:Addr) (ps:List (Str × Rat)) (ds:List WD) (i:Nat) (n:Str) (x:Rat) (h1:vs=[.ref p,.str n]) (h2:NetAt a H p ps ds) (h3:(ps.map (·.1)).Nodup) (h4:ps[i]?=some (n,x)) (h5:∀ q,FrAt a.Fraction H q x->Q (.ref q) H):IspNWant a vs H Q
noncomputable def spNWant (a:Ad):Sp:=λ vs H Q _=>IspNWant a vs H Q
theorem ok_Net_want (T:TX K mg a):MtB P w K mg base CX0 a.Net "want" 1 ["self","place"] (spNWant a):=by
 refine T.m_Net_want.ok sc_Net_want (λ vs H Q E h=>?_) (λ f cdv A outer s H vs Q E hr h=>?_)
 ·obtain ⟨_,_,_,_,_,_,rfl,_⟩:=h;rfl
 ·obtain ⟨p,ps,ds,i,n,x,rfl,⟨dx,dw,dy,hp,hw,hy⟩,nd,hi,k⟩:=h
  refine ⟨_,(ad (aB (bH (bj (bd hr) (pv 1) (aP (pv 0) rfl))) (ae aO) aj)
   (ae (av (db (bd hr) (aP (pv 0) rfl) (pv 1) (λ _ _=>rfl))))),?_⟩
  try dsimp only [aL,Cx.nox,Cx.wish]
  obtain ⟨kvs,q,h1,h2,h3⟩:=hw.at_ nd hi;refine ⟨_,rfl,_,rfl,p,_,dx,_,_,rfl,hp,T.cl_Net,T.na_Net_wants,fsN_w _ _,dw,_,rfl,DGet.k (k:=Sum.inr n) h1,_,rfl,?_⟩;rw [h2];refine iteF ?_;refine ⟨_,rfl,p,_,dx,_,_,rfl,hp,T.cl_Net,T.na_Net_wants,fsN_w _ _,_,rfl,dw,.ref q,rfl,?_,k q h3⟩;rw [<- h2];exact DGet.k (k:=Sum.inr n) h1
end
end G
namespace G
open PySem L2
section
theorem Sm.of_le {a:Int} {n:Nat} (h:a.natAbs<=2 ^ n) (hn:n<9000):Sm a:=eS h (Nat.pow_lt_pow_right (by decide) hn)
noncomputable def inB (g:Str) (c:Nat):Bool:=decide (c∈g.cps.toList)
noncomputable def madeB (z g:Str) (n:Int):Bool:=(decide ((1:Int)<=(z.length:Int)) && decide ((z.length:Int)<=n)) && z.cps.toList.all (inB g)
theorem occ_inB (g:Str) (c:Nat):(!(Builtin.Str.occurrences g ⟨#[c]⟩ 0 g.length 1).isEmpty)=inB g c:=StrLaws.found_one g c
inductive IspMade (vs:List V) (H:Hp) (Q:VK):Prop
 | mk (z g:Str) (n:Int) (h1:vs=[.str z,.str g,.int n]) (h2:z.length<=900) (h3:∀ H',Same H H'->Q (.bl (madeB z g n)) H'):IspMade vs H Q
noncomputable def spMade (K:W.Frag):Sp:=λ vs H Q _=>IspMade vs H Q
theorem du (T:TX K mg a):FnB P w K mg base CX0 "is_made_of" 1 ["text","signs","most"] (spMade K):=by
 refine T.d_is_made_of.ok sc_is_made_of (λ vs H Q E h=>?_) (λ f cdv A outer s H vs Q E hr h=>?_)
 ·obtain ⟨z,g,n,rfl,_⟩:=h;rfl
 ·obtain ⟨z,g,n,rfl,lz,k⟩:=h
  refine ⟨_,(ae (av (pe_and (pe_chain op_le op_le ai (az call_len_str (by rfl) T.z_len f6 (aa (pv 0) af)) (pv 2)) (pe_one (az (call_allK (K:=K) rfl hr.hd) (by rfl) T.z_all PyProof.Rows.boot_all (aa (pe_compG (xs:=["sign"]) (rest:=["signs"]) rfl (pi_str (pv 0))
   (λ pins fp C' s' H'=>(bt (i:=0) (show (["sign","signs"]:List Str).Nodup by decide +kernel) rfl (Or.inl rfl))) (λ pins fp C' s' H'=>pts_nil)
   (λ pins fp C' s' H'=>(cm op_in_str (pv 0) (pv 1) (by with_unfolding_all rfl)))
   (Clos.many (ys:=["signs"]) rfl ⟨rfl,True.intro⟩ rfl (by decide +kernel)) (Reads.many (ys:=["signs"]) (js:=[1]) ⟨⟨rfl,rfl,rfl⟩,True.intro⟩)) af)))))),?_⟩
  try dsimp only [aL,Cx.nox,Cx.wish]
  refine ⟨_,rfl,z,rfl,eQ lz (by decide),_,_,rfl,rfl,_,rfl,?_⟩;unfold madeB at k
  cases h1:decide ((1:Int)<=(z.length:Int)) with
  | false=>
   rw [h1] at k;exact iteF ⟨_,rfl,iteF (k H (Same.refl _))⟩
  | true=>
   rw [h1] at k;refine iteT ⟨_,rfl,_,_,rfl,rfl,_,rfl,?_⟩
   cases h2:decide ((z.length:Int)<=n) with
   | false=>
    rw [h2] at k;exact iteF (k H (Same.refl _))
   | true=>
    rw [h2] at k;refine iteT ⟨_,rfl,z,rfl,λ l nl=>?_⟩;refine compG_str (z:=z) (λ i H2=>i<=z.cps.size/\Same H H2/\H2 l=some (.lst (((z.cps.toList.take i).map (inB g)).map V.bl))) ⟨fP _,ak nl,ac⟩ ?_ ?_
    ·rintro i c H2 hc ⟨_,s2,h2⟩;have hc':z.cps.toList[i]?=some c:=by rw [Array.getElem?_toList];exact hc
     have hi:i<z.cps.size:=(fS.mp hc).1;refine g1 ⟨⟨[_],rfl,rfl⟩,yes ?_⟩;refine ⟨_,rfl,_,rfl,_,_,rfl,rfl,?_⟩;refine ⟨_,h2,a9 (by rw [eB,eB,fQ];have:z.cps.size=z.length:=rfl;omega),nextP hi ⟨hi,b4 nl s2,?_⟩⟩;rw [ac,List.take_add_one,hc',fY,fo,fo];show some (HO.lst (_++[V.bl (!(Builtin.Str.occurrences g ⟨#[c]⟩ 0 g.length 1).isEmpty)]))=_;rw [occ_inB];rfl
    ·rintro H2 ⟨_,s2,h2⟩;refine ⟨l,(z.cps.toList.take z.cps.size).map (inB g),rfl,SqL.of h2,?_⟩;rw [List.take_of_length_le (by rw [fe];exact eC _)];have e:(z.cps.toList.map (inB g)).all id=z.cps.toList.all (inB g):=by rw [List.all_map];rfl
     rw [e];exact k H2 s2
theorem fig_made {z:Str} {m:Nat} (h:z.cps.toList=dg m) (hm:m<10 ^ 9):madeB z "0123456789" 9=true:=by
 obtain ⟨l1,l2⟩:=dg_len m hm;have zl:z.length=(dg m).length:=by show z.cps.size=_;rw [<- fe,h]
 unfold madeB;rw [zl,eK (by omega),eK (by omega),h,Bool.and_self,Bool.true_and,fL];intro c hc;obtain ⟨c1,c2⟩:=df hc
 have:∀ c:Nat,48<=c->c<=57->inB "0123456789" c=true:=by
  intro c h1 h2;obtain ⟨d,rfl⟩:∃ d,c=48+d:=⟨c-48,by omega⟩
  match d,h2 with
  | 0,_=>decide
  | 1,_=>decide
  | 2,_=>decide
  | 3,_=>decide
  | 4,_=>decide
  | 5,_=>decide
  | 6,_=>decide
  | 7,_=>decide
  | 8,_=>decide
  | 9,_=>decide
  | d+10,h=>omega
 exact this c c1 c2
inductive IspWholeT (vs:List V) (H:Hp) (Q:VK):Prop
 | mk (z:Str) (m:Nat) (h1:vs=[.str z]) (h2:z.cps.toList=dg m) (h3:m<10 ^ 9) (h4:∀ H',Same H H'->Q (.int m) H'):IspWholeT vs H Q
noncomputable def spWholeT:Sp:=λ vs H Q _=>IspWholeT vs H Q
theorem dr (T:TX K mg a):FnB P w K mg base CX0 "read_whole" 2 ["text"] spWholeT:=by
 refine T.d_read_whole.ok sc_read_whole (λ vs H Q E h=>?_) (λ f cdv A outer s H vs Q E hr h=>?_)
 ·obtain ⟨z,m,rfl,_⟩:=h;rfl
 ·obtain ⟨z,m,rfl,hz,hm,k⟩:=h
  refine ⟨_,(ad (aB (cV (bg (aN (du T) hr aC (aa (pv 0) (aa (pe_gs T.gs_FIGURES) (aa (pe_gi T.gi_MOST_FIGURES) af)))))) (ae aO) aj)
   (ae (av (aQ call_int_txt (by rfl) T.z_int PyProof.Rows.boot_int (aa (pv 0) af))))),?_⟩
  try dsimp only [aL,Cx.nox,Cx.wish]
  have zl:z.length=(dg m).length:=by show z.cps.size=_;rw [<- fe,hz]
  obtain ⟨l1,l2⟩:=dg_len m hm;refine ⟨_,rfl,z,"0123456789",9,rfl,by omega,λ H' s'=>⟨_,rfl,aU (by rw [fig_made hz hm];rfl) ?_⟩⟩;exact ⟨_,rfl,z,m,rfl,by omega,dg_int hz hm,k H' s'⟩
inductive IspReadF (C:Addr) (vs:List V) (H:Hp) (Q:VK):Prop
 | mk (x:Rat) (h1:vs=[.str (aH x)]) (h2:x.num.natAbs<10 ^ 9) (h3:x.den<10 ^ 9) (h4:∀ r H',H r=none->Same H H'->FrAt C H' r x->Q (.ref r) H'):IspReadF C vs H Q
noncomputable def spReadF (C:Addr):Sp:=λ vs H Q _=>IspReadF C vs H Q
theorem dg47 (m:Nat):¬ 47∈dg m:=λ h=>by have:=df h;omega
theorem d8 (x:Rat):(txt x.num).cps.toList=if x.num<0 then 45::dg x.num.natAbs else dg x.num.natAbs:=by
 cases e:x.num with
 | ofNat m=>rw [if_neg (by exact Int.not_lt.mpr (Int.natCast_nonneg m))];exact bW m
 | negSucc m=>rw [if_pos (Int.negSucc_lt_zero m)];exact txt_neg m
theorem num47 (x:Rat):¬ 47∈(txt x.num).cps.toList:=by
 rw [d8]
 split
 ·intro h;rcases eT.mp h with z | z
  ·exact absurd z (by decide)
  ·exact dg47 _ z
 ·exact dg47 _
theorem shown_part (x:Rat):Txt.partition (aH x) "/"=if (x.den:Int)=1 then (txt x.num,Str.empty,Str.empty) else (txt x.num,⟨#[47]⟩,txt (x.den:Int)):=by
 show Txt.partition (aH x) ⟨#[47]⟩=_;unfold aH;by_cases h:(x.den:Int)=1
 ·rw [if_pos h,if_pos h];exact part_none (num47 x)
 ·rw [if_neg h,if_neg h]
  have e:(Str.ofString (toString x.num) ++ "/" ++ Str.ofString (toString (x.den:Int))).cps.toList=(txt x.num).cps.toList++47::dg x.den:=by
   rw [PySem.W.KT.app_list,PySem.W.KT.app_list,List.append_assoc]
   have:=bW x.den
   unfold txt at this;rw [this];rfl
  have:=part_one e (num47 x) (dg47 _)
  rw [this];have e1:(⟨(txt x.num).cps.toList.toArray⟩:Str)=txt x.num:=dO rfl;have e2:(⟨(dg x.den).toArray⟩:Str)=txt (x.den:Int):=dO (bW x.den).symm;rw [e1,e2]
theorem shown_len {x:Rat} (h1:x.num.natAbs<10 ^ 9) (h2:x.den<10 ^ 9):(aH x).length<=900:=by
 obtain ⟨_,l1⟩:=dg_len _ h1;obtain ⟨_,l2⟩:=dg_len _ h2
 have a1:(txt x.num).length<=10:=by
  show (txt x.num).cps.size<=_;rw [<- fe,d8]
  split
  ·rw [eV];omega
  ·omega
 have a2:(txt (x.den:Int)).length<=10:=by
  show (txt (x.den:Int)).cps.size<=_;rw [<- fe,bW];omega
 unfold aH
 split
 ·exact eQ a1 (by decide)
 ·rw [et,et]
  have:("/":Str).length=1:=rfl
  have b1:(Str.ofString (toString x.num)).length<=10:=a1;have b2:(Str.ofString (toString (x.den:Int))).length<=10:=a2;omega
theorem ok_read_fraction (T:TX K mg a):FnB P w K mg base CX0 "read_fraction" 4 ["text"] (spReadF a.Fraction):=by
 refine T.d_read_fraction.ok sc_read_fraction (λ vs H Q E h=>?_) (λ f cdv A outer s H vs Q E hr h=>?_)
 ·obtain ⟨x,rfl,_⟩:=h;rfl
 ·obtain ⟨x,rfl,hn,hd,k⟩:=h
  refine ⟨_,(aM (aD (i:=1) sc_read_fraction.nd rfl (Or.inl rfl) (pe_bm PySem.F.plainAttrs_str PySem.F.slot_str_partition PySem.F.type_str_partition mt_part (pv 0) (aa au af)))
   (aM (aD (i:=2) sc_read_fraction.nd rfl (Or.inl rfl) (pe_bm PySem.F.plainAttrs_str PySem.F.slot_str_startswith PySem.F.type_str_startswith mt_starts (aK ix_tup (pv 1) ai (λ _ _=>rfl)) (aa au af)))
   (aM (aD (i:=3) sc_read_fraction.nd rfl (Or.inl rfl) (aN (dr T) hr aC (aa (dY (bg (pv 2)) (pe_slice sl_str (aK ix_tup (pv 1) ai (λ _ _=>rfl)) (po_some ai) po_none) (aK ix_tup (pv 1) ai (λ _ _=>rfl))) af)))
   (aM (aD (i:=4) sc_read_fraction.nd rfl (Or.inl rfl) (dY (aq a8 (aK ix_tup (pv 1) ai (λ _ _=>rfl)) au (aw _)) (aN (dr T) hr aC (aa (aK ix_tup (pv 1) ai (λ _ _=>rfl)) af)) ai))
   (ad (aB (aq a8 (pv 4) ai (aw _)) (ae aO) aj)
   (ad (aD (i:=5) sc_read_fraction.nd rfl (Or.inl rfl) (pe_mkfr (mk2 T) hr T.mg_Fraction aC (aa (dY (bg (pv 2)) (pe_un un_neg (pv 3)) (pv 3)) (aa (pv 4) af))))
   (ad (aB (aq op_ne (dZ T.fr (pv 5) (ok_shown T) hr aC) (pv 0) (aw _)) (ae aO) aj)
   (ae (av (pv 5)))))))))),?_⟩
  try dsimp only [aL,Cx.nox,Cx.wish]
  have sl:=shown_len hn hd;have dp:=den_pos x;refine cf (λ σ' H'=>∃ p b c,σ'=[some (.str (aH x)),some (.ref p),none,none,none,none]/\Same H H'/\H' p=some (.tup [.str (txt x.num),.str b,.str c])/\(((x.den:Int)=1/\b=Str.empty)∨((x.den:Int)≠1/\b = "/"/\c=txt (x.den:Int)))) ?_ ?_
  ·refine ⟨_,rfl,rfl,_,_,rfl,rfl,rfl,eQ sl (by decide),λ p np=>?_⟩;have e:=shown_part x;by_cases h:(x.den:Int)=1
   ·rw [if_pos h] at e;rw [e];exact ⟨p,_,_,rfl,ak np,ac,.inl ⟨h,rfl⟩⟩
   ·rw [if_neg h] at e;rw [e];exact ⟨p,_,_,rfl,ak np,ac,.inr ⟨h,rfl,rfl⟩⟩
  rintro zU hzU σ' H1 ⟨p,b,c,rfl,s1,hp,hbc⟩;have sq:=SqT.of (K:=K) hp;subst hzU;refine cf (λ σ' H'=>σ'=[some (.str (aH x)),some (.ref p),some (.bl (decide (x.num<0))),none,none,none]/\H'=H1) ?_ ?_
  ·refine ⟨_,rfl,p,_,_,_,rfl,rfl,sq,rfl,rfl,_,_,rfl,rfl,?_,rfl⟩;show [_,_,some (V.bl (Txt.startswith (txt x.num) ⟨#[45]⟩)),_,_,_]=_;rw [starts_one,d8]
   congr 4
   by_cases h:x.num<0
   ·rw [if_pos h,eK h];exact fv V.bl (eK (show (45::dg x.num.natAbs)[0]?=some 45 from rfl))
   ·rw [if_neg h,eD h];refine fv V.bl (eD λ z=>?_)
    have:=df (fk z)
    omega
  rintro zU hzU σ' H2 ⟨rfl,eH⟩;subst hzU;subst eH;refine cf (λ σ' H'=>σ'=[some (.str (aH x)),some (.ref p),some (.bl (decide (x.num<0))),some (.int x.num.natAbs),none,none]/\Same H2 H') ?_ ?_
  ·refine ⟨_,rfl,_,rfl,?_⟩;have e:=d8 x;by_cases h:x.num<0
   ·rw [if_pos h] at e;refine bY (eK h) ?_;refine ⟨_,rfl,p,_,_,_,rfl,rfl,sq,rfl,_,rfl,_,rfl,?_,_,_,rfl,slice_one e,hn,λ H' s'=>⟨rfl,s'⟩⟩;show (txt x.num).length<=_;refine eQ (show (txt x.num).cps.size<=900 from ?_) (by decide)
    have:=(dg_len _ hn).2
    rw [<- fe,e,eV];omega
   ·rw [if_neg h] at e;refine aU (eD h) ?_;exact ⟨_,rfl,p,_,_,_,rfl,rfl,sq,rfl,_,_,rfl,e,hn,λ H' s'=>⟨rfl,s'⟩⟩
  rintro zU hzU σ' H3 ⟨rfl,s3⟩;have sq3:=SqT.of (K:=K) (s3 _ _ hp);subst hzU;refine cf (λ σ' H'=>σ'=[some (.str (aH x)),some (.ref p),some (.bl (decide (x.num<0))),some (.int x.num.natAbs),some (.int x.den),none]/\Same H3 H') ?_ ?_
  ·refine ⟨_,rfl,p,_,_,_,rfl,rfl,sq3,rfl,rfl,_,rfl,?_⟩;rcases hbc with ⟨h1,rfl⟩ | ⟨h1,rfl,rfl⟩
   ·refine aU (by decide) ⟨?_,Same.refl _⟩;rw [h1];rfl
   ·refine bY (eK rfl) ?_;exact ⟨_,rfl,p,_,_,_,rfl,rfl,sq3,rfl,_,_,rfl,bW x.den,hd,λ H' s'=>⟨rfl,s'⟩⟩
  rintro zU hzU σ' H4 ⟨rfl,s4⟩;subst hzU;refine ⟨_,rfl,rfl,_,rfl,aU (neV (by omega)) ?_⟩;have t1:Tx x.num:=eP hn (by decide);have t2:Tx (x.den:Int):=by show ((x.den:Int)).natAbs<_;rw [Int.natAbs_natCast];exact eP hd (by decide)
  have sd:Sm (x.den:Int):=Sm.of_le (n:=100) (by rw [Int.natAbs_natCast];exact eQ (Nat.le_of_lt hd) (by decide)) (by decide);have s24:=s1.trans (s3.trans s4);refine ⟨_,rfl,_,rfl,?_⟩;by_cases h:x.num<0
  ·refine bY (eK h) ⟨_,rfl,_,rfl,_,rfl,_,_,rfl,by omega,sd,λ r H5 nr s5 hr5=>?_⟩;rw [show (-((x.num.natAbs:Nat):Int))=x.num by omega,Rat.num_divInt_den] at hr5;refine ⟨_,rfl,r,x,rfl,hr5,r,x,rfl,hr5,t1,t2,_,rfl,rfl,_,rfl,iteNS rfl ?_⟩;exact ⟨_,rfl,k r H5 (s24.free nr) (s24.trans s5) hr5⟩
  ·refine aU (eD h) ⟨_,rfl,_,rfl,_,_,rfl,by omega,sd,λ r H5 nr s5 hr5=>?_⟩;rw [show (((x.num.natAbs:Nat):Int))=x.num by omega,Rat.num_divInt_den] at hr5;refine ⟨_,rfl,r,x,rfl,hr5,r,x,rfl,hr5,t1,t2,_,rfl,rfl,_,rfl,iteNS rfl ?_⟩;exact ⟨_,rfl,k r H5 (s24.free nr) (s24.trans s5) hr5⟩
end
end G
namespace G
open PySem L2
section
inductive Wd where
 | nm (z:Str)
 | fr (x:Rat)
 | no
noncomputable def Wd.txt:Wd->Str
 | .nm z=>z
 | .fr x=>aH x
 | .no=>"-"
noncomputable def bG (z:Str):Bool:=madeB z "abcdefghijklmnopqrstuvwxyz" 8
noncomputable def Wd.ok (kd:Str):Wd->Prop
 | .nm z=>kd = "name"/\bG z=true
 | .fr x=>(kd = "fraction"∨(kd = "gain"/\0<x.num))/\x.num.natAbs<10 ^ 9/\x.den<10 ^ 9
 | .no=>kd = "high"
noncomputable def WdIs (a:Ad) (H:Hp) (v:V):Wd->Prop
 | .nm z=>v=.str z
 | .fr x=>∃ r,v=.ref r/\FrAt a.Fraction H r x
 | .no=>v=.non
theorem WdIs.mono {H H':Hp} {v:V} {c:Wd} (h:WdIs a H v c) (s:Same H H'):WdIs a H' v c:=by
 cases c with
 | nm z=>exact h
 | fr x=>obtain ⟨r,e,f⟩:=h;exact ⟨r,e,f.mono s⟩
 | no=>exact h
theorem ba {z:Str} (h:bG z=true):1<=z.length/\z.length<=8/\∀ c∈z.cps.toList,97<=c/\c<=122:=by
 unfold bG madeB at h;rw [Bool.and_eq_true,Bool.and_eq_true,decide_eq_true_iff,decide_eq_true_iff,fL] at h;refine ⟨by omega,by omega,λ c hc=>?_⟩
 have:=of_decide_eq_true (h.2 c hc)
 have key:∀ x∈("abcdefghijklmnopqrstuvwxyz":Str).cps.toList,97<=x/\x<=122:=by decide
 exact key c this
theorem shown_free {x:Rat}:¬ 32∈(aH x).cps.toList:=by
 have h1:∀ m,¬ 32∈dg m:=λ m h=>by have:=df h;omega
 have h2:¬ 32∈(txt x.num).cps.toList:=by
  rw [d8]
  split
  ·intro h;rcases eT.mp h with z | z
   ·exact absurd z (by decide)
   ·exact h1 _ z
  ·exact h1 _
 unfold aH
 split
 ·exact h2
 ·rw [bv,bv];intro h;rcases List.mem_append.mp h with h | h
  ·rcases List.mem_append.mp h with h | h
   ·exact h2 h
   ·exact absurd h (by decide)
  ·have e:=bW x.den;unfold txt at e;rw [e] at h;exact h1 _ h
theorem Wd.free {kd:Str} {c:Wd} (h:c.ok kd):¬ 32∈c.txt.cps.toList:=by
 cases c with
 | nm z=>exact λ m=>by have:=(ba h.2).2.2 32 m;omega
 | fr x=>exact shown_free
 | no=>exact (by decide:¬ 32∈("-":Str).cps.toList)
theorem Wd.len {kd:Str} {c:Wd} (h:c.ok kd):c.txt.length<=900:=by
 cases c with
 | nm z=>have:=(ba h.2).2.1;exact eQ this (by decide)
 | fr x=>exact shown_len h.2.1 h.2.2
 | no=>exact (by decide:("-":Str).length<=900)
inductive IspIsName (vs:List V) (H:Hp) (Q:VK):Prop
 | mk (z:Str) (h1:vs=[.str z]) (h2:z.length<=900) (h3:∀ H',Same H H'->Q (.bl (bG z)) H'):IspIsName vs H Q
noncomputable def spIsName:Sp:=λ vs H Q _=>IspIsName vs H Q
theorem ok_is_name (T:TX K mg a):FnB P w K mg base CX0 "is_name" 2 ["text"] spIsName:=by
 refine T.d_is_name.ok sc_is_name (λ vs H Q E h=>?_) (λ f cdv A outer s H vs Q E hr h=>?_)
 ·obtain ⟨z,rfl,_⟩:=h;rfl
 ·obtain ⟨z,rfl,lz,k⟩:=h;refine ⟨_,(ae (av (aN (du T) hr aC (aa (pv 0) (aa (pe_gs T.gs_LETTERS) (aa (pe_gi T.gi_MOST_LETTERS) af)))))),?_⟩;try dsimp only [aL,Cx.nox,Cx.wish]
  exact ⟨_,rfl,z,"abcdefghijklmnopqrstuvwxyz",8,rfl,lz,λ H' s'=>k H' s'⟩
inductive IspRName (vs:List V) (H:Hp) (Q:VK):Prop
 | mk (z:Str) (h1:vs=[.str z]) (h2:bG z=true) (h3:∀ H',Same H H'->Q (.str z) H'):IspRName vs H Q
noncomputable def spRName:Sp:=λ vs H Q _=>IspRName vs H Q
theorem ok_read_name (T:TX K mg a):FnB P w K mg base CX0 "read_name" 3 ["word"] spRName:=by
 refine T.d_read_name.ok sc_read_name (λ vs H Q E h=>?_) (λ f cdv A outer s H vs Q E hr h=>?_)
 ·obtain ⟨z,rfl,_⟩:=h;rfl
 ·obtain ⟨z,rfl,hz,k⟩:=h
  refine ⟨_,(ad (aB (cV (bg (aN (ok_is_name T) hr aC (aa (pv 0) af)))) (ae aO) aj)
   (ae (av (pv 0)))),?_⟩
  try dsimp only [aL,Cx.nox,Cx.wish]
  refine ⟨_,rfl,z,rfl,eQ (ba hz).2.1 (by decide),λ H' s'=>⟨_,rfl,aU (by rw [hz];rfl) ⟨_,rfl,k H' s'⟩⟩⟩
theorem up_read_fraction (T:TX K mg a):FnB P w K mg base (CX1 P w) "read_fraction" 4 ["text"] (spReadF a.Fraction):=(ok_read_fraction T).up
theorem b9 (T:TX K mg a):FnB P w K mg base CX0 "read_number" 5 ["word"] (spReadF a.Fraction):=by
 refine T.d_read_number.ok sc_read_number (λ vs H Q E h=>?_) (λ f cdv A outer s H vs Q E hr h=>?_)
 ·obtain ⟨x,rfl,_⟩:=h;rfl
 ·obtain ⟨x,rfl,hn,hd,k⟩:=h;refine ⟨_,(ae (ps_try (pssx_one (psx_ret (px_fn (up_read_fraction T) hr (aa (pv 0) af)))) ph_never)),?_⟩;try dsimp only [aL,Cx.nox,Cx.wish]
  exact ⟨_,rfl,x,rfl,hn,hd,k⟩
inductive IspRGain (C:Addr) (vs:List V) (H:Hp) (Q:VK):Prop
 | mk (x:Rat) (h1:vs=[.str (aH x)]) (h2:x.num.natAbs<10 ^ 9) (h3:x.den<10 ^ 9) (h4:0<x.num) (h5:∀ r H',H r=none->Same H H'->FrAt C H' r x->Q (.ref r) H'):IspRGain C vs H Q
noncomputable def spRGain (C:Addr):Sp:=λ vs H Q _=>IspRGain C vs H Q
theorem ok_read_gain (T:TX K mg a):FnB P w K mg base CX0 "read_gain" 6 ["word"] (spRGain a.Fraction):=by
 refine T.d_read_gain.ok sc_read_gain (λ vs H Q E h=>?_) (λ f cdv A outer s H vs Q E hr h=>?_)
 ·obtain ⟨x,rfl,_⟩:=h;rfl
 ·obtain ⟨x,rfl,hn,hd,hx,k⟩:=h
  refine ⟨_,(ad (aD (i:=1) sc_read_gain.nd rfl (Or.inl rfl) (aN (b9 T) hr aC (aa (pv 0) af)))
   (ad (aB (aq op_le (dZ T.fr (pv 1) (ok_sign T) hr aC) ai (aw _)) (ae aO) aj)
   (ae (av (pv 1))))),?_⟩
  try dsimp only [aL,Cx.nox,Cx.wish]
  refine ⟨_,rfl,x,rfl,hn,hd,λ r H1 nr s1 f1=>?_⟩;walk_at "rd"
  refine aU (eD (sgn_p hx)) ?_;exact ⟨_,rfl,k r H1 nr s1 f1⟩
noncomputable def spRHigh:Sp:=λ vs H Q _=>vs=[.str "-"]/\Q .non H
theorem ok_read_high (T:TX K mg a):FnB P w K mg base CX0 "read_high" 6 ["word"] spRHigh:=by
 refine T.d_read_high.ok sc_read_high (λ vs H Q E h=>?_) (λ f cdv A outer s H vs Q E hr h=>?_)
 ·obtain ⟨rfl,_⟩:=h;rfl
 ·obtain ⟨rfl,k⟩:=h
  refine ⟨_,(ad (aB (aq a8 (pv 0) au (aw _)) (ae (av bz)) aj)
   (ad (aD (i:=1) sc_read_high.nd rfl (Or.inl rfl) (aN (b9 T) hr aC (aa (pv 0) af)))
   (ad (aB (aq op_lt (dZ T.fr (pv 1) (ok_sign T) hr aC) ai (aw _)) (ae aO) aj)
   (ae (av (pv 1)))))),?_⟩
  try dsimp only [aL,Cx.nox,Cx.wish]
  exact ⟨_,rfl,rfl,_,rfl,bY (eK rfl) k⟩
inductive IspWord (a:Ad) (vs:List V) (H:Hp) (Q:VK):Prop
 | mk (kd:Str) (c:Wd) (h1:vs=[.str kd,.str c.txt]) (h2:c.ok kd) (h3:∀ v H',Same H H'->WdIs a H' v c->Q v H'):IspWord a vs H Q
noncomputable def spWord (a:Ad):Sp:=λ vs H Q _=>IspWord a vs H Q
theorem ok_read_word (T:TX K mg a):FnB P w K mg base CX0 "read_word" 7 ["kind","word"] (spWord a):=by
 refine T.d_read_word.ok sc_read_word (λ vs H Q E h=>?_) (λ f cdv A outer s H vs Q E hr h=>?_)
 ·obtain ⟨kd,c,rfl,_⟩:=h;rfl
 ·obtain ⟨kd,c,rfl,hc,k⟩:=h
  refine ⟨_,(ad (aB (aq a8 (pv 0) au (aw _)) (ae (av (aN (ok_read_name T) hr aC (aa (pv 1) af)))) aj)
   (ad (aB (aq a8 (pv 0) au (aw _)) (ae (av (aN (ok_read_gain T) hr aC (aa (pv 1) af)))) aj)
   (ad (aB (aq a8 (pv 0) au (aw _)) (ae (av (aN (ok_read_high T) hr aC (aa (pv 1) af)))) aj)
   (ae (av (aN (b9 T) hr aC (aa (pv 1) af))))))),?_⟩
  try dsimp only [aL,Cx.nox,Cx.wish]
  cases c with
  | nm z=>
   obtain ⟨rfl,hz⟩:=hc;exact ⟨_,rfl,rfl,_,rfl,bY (eK rfl) ⟨_,rfl,z,rfl,hz,λ H' s'=>k _ H' s' rfl⟩⟩
  | fr x=>
   obtain ⟨hk,hn,hd⟩:=hc;rcases hk with rfl | ⟨rfl,hx⟩
   ·exact ⟨_,rfl,rfl,_,rfl,aU (by decide) ⟨_,rfl,rfl,_,rfl,aU (by decide) ⟨_,rfl,rfl,_,rfl,aU (by decide) ⟨_,rfl,x,rfl,hn,hd,λ r H' nr s' f'=>k _ H' s' ⟨r,rfl,f'⟩⟩⟩⟩⟩
   ·exact ⟨_,rfl,rfl,_,rfl,aU (by decide) ⟨_,rfl,rfl,_,rfl,bY (eK rfl) ⟨_,rfl,x,rfl,hn,hd,hx,λ r H' nr s' f'=>k _ H' s' ⟨r,rfl,f'⟩⟩⟩⟩
  | no=>
   obtain rfl:=hc;exact ⟨_,rfl,rfl,_,rfl,aU (by decide) ⟨_,rfl,rfl,_,rfl,aU (by decide) ⟨_,rfl,rfl,_,rfl,bY (eK rfl) ⟨_,rfl,rfl,k _ H (Same.refl _) rfl⟩⟩⟩⟩
end
end G
namespace G
open PySem L2
section
theorem cut_drop {xs:List V} (i:Nat):cutV xs (some (i:Int)) none=xs.drop i:=by
 unfold cutV;rw [HT.sIx_nat,HT.sIx_none];by_cases h:i<=xs.length
 ·rw [Nat.min_eq_left h,List.take_of_length_le (by rw [List.length_drop];omega)]
 ·rw [Nat.min_eq_right (by omega),List.drop_of_length_le (eC _),List.take_nil,List.drop_of_length_le (by omega)]
theorem at0 {α:Type} {x:α} {xs:List α}:atI (x::xs) 0=some x:=atI_nat (j:=0) rfl
theorem datum_mem {δ:Type} {k:Str}:∀ {D:List (Str × δ)} {d:δ},PyProof.Rows.KTD.datumAt k D=some d->(k,d)∈D
 | [],_,h=>by cases h
 | p::D,d,h=>by
  unfold PyProof.Rows.KTD.datumAt at h
  split at h
  ·rename_i e
   cases h;obtain rfl:=of_decide_eq_true e;exact eY
  ·exact eW _ (datum_mem h)
structure RowOk (hd:Str) (kds:List Str) (cs:List Wd):Prop where
 at_:PyProof.Rows.KTD.datumAt hd bB=some kds
 len:cs.length=kds.length
 ok:∀ (j:Nat) (kd:Str) (c:Wd),kds[j]?=some kd->cs[j]?=some c->c.ok kd
theorem form_all {hd:Str} {kds:List Str} (h:PyProof.Rows.KTD.datumAt hd bB=some kds):¬ 32∈hd.cps.toList/\hd.length<=8/\kds.length<=6:=by
 have key:∀ p∈bB,¬ 32∈p.1.cps.toList/\p.1.length<=8/\p.2.length<=6:=by decide
 exact key _ (datum_mem h)
theorem RowOk.each {hd:Str} {kds:List Str} {cs:List Wd} (h:RowOk hd kds cs) {c:Wd} (hc:c∈cs):∃ kd,c.ok kd:=by
 obtain ⟨j,hj⟩:=fO.mp hc;have lt:j<kds.length:=by rw [<- h.len];exact (eG.mp hj).1
 exact ⟨kds[j],h.ok j _ c (eI lt) hj⟩
theorem RowOk.split {hd:Str} {kds:List Str} {cs:List Wd} (h:RowOk hd kds cs):Txt.split (Str.join ⟨#[32]⟩ (hd::cs.map Wd.txt)) ⟨#[32]⟩=hd::cs.map Wd.txt:=by
 refine split_words (by simp) λ p hp=>?_;rcases eT.mp hp with rfl | hp
 ·exact (form_all h.at_).1
 ·obtain ⟨c,hc,rfl⟩:=eX.mp hp;obtain ⟨kd,ok⟩:=h.each hc;exact Wd.free ok
theorem sum_le {xs:List Nat} {b:Nat} (h:∀ x∈xs,x<=b):xs.sum<=xs.length*b:=by
 induction xs with
 | nil=>simp
 | cons x r ih=>
  rw [List.sum_cons,eV,Nat.succ_mul];have h1:=h x eY;have h2:=ih λ y hy=>h y (eW _ hy);omega
theorem RowOk.size {hd:Str} {kds:List Str} {cs:List Wd} (h:RowOk hd kds cs):(Str.join ⟨#[32]⟩ (hd::cs.map Wd.txt)).length<=10000:=by
 refine eQ (StrLaws.join_length_le _ _) ?_;obtain ⟨_,l1,l2⟩:=form_all h.at_;have l3:=h.len
 have h1:=sum_le (xs:=(hd::cs.map Wd.txt).map (·.length)) (b:=900) λ x hx=>by
  obtain ⟨y,hy,rfl⟩:=eX.mp hx;rcases eT.mp hy with rfl | hy
  ·omega
  ·obtain ⟨c,hc,rfl⟩:=eX.mp hy;obtain ⟨kd,ok⟩:=h.each hc;exact Wd.len ok
 rw [eB,eV,eB] at h1;rw [eV,eB]
 have:(⟨#[32]⟩:Str).length=1:=rfl
 rw [this];omega
noncomputable def sameW (hd:Str):List Wd->Bool
 | _ :: .nm s :: .nm g::_=>decide (hd = "way") && decide (s=g)
 | _=>false
theorem way_shape {kds:List Str} {cs:List Wd} (h:RowOk "way" kds cs):∃ n s g x c,cs=[.nm n,.nm s,.nm g,.fr x,.no,.fr c]:=by
 have e:kds=(["name","name","name","gain","high","fraction"]:List Str):=by
  have:=h.at_
  rw [show PyProof.Rows.KTD.datumAt ("way":Str) bB=some (["name","name","name","gain","high","fraction"]:List Str) by decide] at this;exact (eZ this).symm
 subst e;have l:=h.len
 obtain ⟨c0,c1,c2,c3,c4,c5,rfl⟩:∃ c0 c1 c2 c3 c4 c5,cs=[c0,c1,c2,c3,c4,c5]:=by
  match cs,l with
  | [c0,c1,c2,c3,c4,c5],_=>exact ⟨_,_,_,_,_,_,rfl⟩
 have nm:∀ c:Wd,c.ok "name"->∃ z,c=.nm z:=λ c hc=>by
  cases c with
  | nm z=>exact ⟨z,rfl⟩
  | fr x=>rcases hc.1 with z | ⟨z,_⟩ <;> exact absurd z (by decide)
  | no=>exact absurd hc (by decide:¬ ("name":Str) = "high")
 have frr:∀ (c:Wd) (kd:Str),kd≠"name"->kd≠"high"->c.ok kd->∃ x,c=.fr x:=λ c kd n1 n2 hc=>by
  cases c with
  | nm z=>exact absurd hc.1 n1
  | fr x=>exact ⟨x,rfl⟩
  | no=>exact absurd hc n2
 obtain ⟨n,rfl⟩:=nm c0 (h.ok 0 _ _ rfl rfl);obtain ⟨s,rfl⟩:=nm c1 (h.ok 1 _ _ rfl rfl);obtain ⟨g,rfl⟩:=nm c2 (h.ok 2 _ _ rfl rfl);obtain ⟨x,rfl⟩:=frr c3 _ (by decide) (by decide) (h.ok 3 _ _ rfl rfl);obtain ⟨c,rfl⟩:=frr c5 _ (by decide) (by decide) (h.ok 5 _ _ rfl rfl);have h4:=h.ok 4 _ c4 rfl rfl
 cases c4 with
 | nm z=>exact absurd h4.1 (by decide:¬ ("high":Str) = "name")
 | fr x=>rcases h4.1 with z | ⟨z,_⟩ <;> exact absurd z (by decide)
 | no=>exact ⟨n,s,g,x,c,rfl⟩
inductive IspRow (a:Ad) (vs:List V) (H:Hp) (Q:VK) (E:XK):Prop
 | mk (hd:Str) (kds:List Str) (cs:List Wd) (h1:vs=[.str (Str.join ⟨#[32]⟩ (hd::cs.map Wd.txt))]) (h2:RowOk hd kds cs) (h3:(sameW hd cs=false->∀ l H' us,H l=none->Same H H'->H' l=some (.lst (.str hd::us))->RowAt (WdIs a) H' us cs->Q (.ref l) H')) (h4:(sameW hd cs=true->∀ H',Same H H'->E (.ref a.NoRow) none H')):IspRow a vs H Q E
noncomputable def spRow (K:W.Frag) (a:Ad):Sp:=λ vs H Q E=>IspRow a vs H Q E
theorem ok_read_rowX (T:TX K mg a):FnB P w K mg base (CX1 P w) "read_row" 8 ["row"] (spRow K a):=by
 refine T.d_read_row.okX sc_read_row (λ vs H Q E h=>?_) (λ f cdv A outer s H vs Q E hr h=>?_)
 ·obtain ⟨_,_,_,rfl,_⟩:=h;rfl
 ·obtain ⟨hd,kds,cs,rfl,ro,k,kx⟩:=h
  refine ⟨_,(aM (aD (i:=1) sc_read_row.nd rfl (Or.inl rfl) (pe_bm PySem.F.plainAttrs_str PySem.F.slot_str_split PySem.F.type_str_split mt_split (pv 0) (aa au af)))
   (aM (aD (i:=2) sc_read_row.nd rfl (Or.inl rfl) (pe_kget T.kt_FORMS (aK aE (pv 1) ai (λ _ _=>rfl)) ⟨rfl,rfl,rfl,rfl⟩))
   (aM (aB (PW.pt (pw_or (aq op_isN (pv 2) bz (aw _)) (pw_or1 (aq op_ne (az cB (by rfl) T.z_len f6 (aa (pv 1) af)) (aA op_add (az cB (by rfl) T.z_len f6 (aa (pv 2) af)) ai) (aw _))))) (ae (dW xout1 rfl hr.hd (by rfl) T.mg_NoRow T.ex_NoRow (aa au af))) aj)
   (aM (aD (i:=3) sc_read_row.nd rfl (Or.inl rfl) (aA op_cat (pe_lst (aa (aK aE (pv 1) ai (λ _ _=>rfl)) af)) (pe_compG (xs:=["kind","word"]) (rest:=[]) rfl (pi_zipM (by rfl) T.z_zip (aa (pv 2) (aa (pe_slice sl_list (pv 1) (po_some ai) po_none) af)))
   (λ pins fp C' s' H'=>by exact (pg_tupK (K:=K) (n:=2) rfl rfl (dX (bt (i:=0) (show (["kind","word"]:List Str).Nodup by decide +kernel) rfl (Or.inl rfl)) (dX (bt (i:=1) (show (["kind","word"]:List Str).Nodup by decide +kernel) rfl (Or.inl rfl)) pgs_nil)))) (λ pins fp C' s' H'=>by exact pts_nil)
   (λ pins fp C' s' H'=>by exact (aN (ok_read_word T) hr aC (aa (pv 0) (aa (pv 1) af))))
   (Clos.none (by decide +kernel) (by decide +kernel)) (Reads.many (ys:=[]) (js:=[]) True.intro))))
   (ad (aB (PW.pt (cn (aq a8 (aK aE (pv 1) ai (λ _ _=>rfl)) au (aw _)) (ck (aq a8 (aK aE (pv 3) ai (λ _ _=>rfl)) (aK aE (pv 3) ai (λ _ _=>rfl)) (aw _))))) (ae (dW xout1 rfl hr.hd (by rfl) T.mg_NoRow T.ex_NoRow (aa au af))) aj)
   (ae (av (pv 3)))))))),?_⟩
  try dsimp only [aL,Cx.nox,Cx.wish]
  generalize hk9:tCut _ _=k9
  revert k9
  refine keepG λ k9 hk9=>?_;have sz:=ro.size;have sp:=ro.split;obtain ⟨_,_,lk⟩:=form_all ro.at_;have lc:=ro.len;generalize hz:Str.join ⟨#[32]⟩ (hd::cs.map Wd.txt)=z at sz sp ⊢;subst hk9;refine cf (λ σ' H'=>∃ p,σ'=[some (.str z),some (.ref p),none,none]/\Same H H'/\H' p=some (.lst ((hd::cs.map Wd.txt).map V.str))) ?_ ?_
  ·refine ⟨_,rfl,rfl,_,_,rfl,rfl,rfl,eQ sz (by decide),?_,λ p np=>?_⟩
   ·show (Txt.split z ⟨#[32]⟩).length<=_;rw [sp,eV,eB];exact eQ (show _<=7 by omega) (by decide)
   ·have e:Txt.split z " "=hd::cs.map Wd.txt:=sp;rw [e];exact ⟨p,rfl,ak np,ac⟩
  rintro zU hzU σ' H1 ⟨p,rfl,s1,hp⟩;have sq:=SqL.of (K:=K) hp;subst hzU;refine cf (λ σ' H'=>∃ t,σ'=[some (.str z),some (.ref p),some (.ref t),none]/\H'=H1/\∀ H'',SqT K H'' t (kds.map V.str)) ?_ ?_
  ·refine ⟨_,rfl,p,_,_,_,rfl,rfl,sq,at0,hd,rfl,λ ss t e sq'=>?_,λ e=>?_⟩
   ·rw [ro.at_] at e
    cases e;exact ⟨t,rfl,rfl,sq'⟩
   ·rw [ro.at_] at e
    cases e
  rintro zU hzU σ' H2 ⟨t,rfl,rfl,sqt⟩;subst hzU;refine cf (λ σ' H'=>σ'=[some (.str z),some (.ref p),some (.ref t),none]/\H'=H2) ?_ ?_
  ·refine ⟨_,rfl,rfl,_,rfl,aU (eD (by simp)) ?_⟩;refine ⟨_,rfl,p,_,rfl,.inl sq,_,rfl,t,_,rfl,.inr (sqt _),_,_,rfl,rfl,rfl,_,rfl,iteNS ?_ ⟨rfl,rfl⟩⟩;show V.int _=V.int _;rw [eB,eV,eB,eB,lc];rfl
  rintro zU hzU σ' H3 ⟨rfl,rfl⟩;subst hzU;refine cf (λ σ' H'=>∃ l us,σ'=[some (.str z),some (.ref p),some (.ref t),some (.ref l)]/\H l=none/\Same H H'/\Same H3 H'/\H' l=some (.lst (.str hd::us))/\RowAt (WdIs a) H' us cs) ?_ ?_
  ·refine ⟨_,rfl,p,_,_,_,rfl,rfl,sq,at0,zL1,λ l0 n0=>?_⟩;obtain ⟨H4,zq,s4,h0⟩:=uG (o:=.lst [.str hd]) n0;rw [zq];have sq4:=s4.seq sq;refine ⟨_,rfl,_,rfl,_,rfl,p,_,rfl,sq4,λ l1 n1=>?_⟩;have e1:cutV ((hd::cs.map Wd.txt).map V.str) (some 1) none=(cs.map Wd.txt).map V.str:=(cut_drop 1).trans rfl;have s5:=ak (o:=.lst ((cs.map Wd.txt).map V.str)) n1;have h1:upd H4 l1 (.lst ((cs.map Wd.txt).map V.str)) l1=some (.lst ((cs.map Wd.txt).map V.str)):=ac;rw [e1];generalize upd H4 l1 (.lst ((cs.map Wd.txt).map V.str))=H5 at s5 h1 ⊢;have s45:=s4.trans s5;have h05:=s5 _ _ h0;refine ⟨t,l1,_,_,rfl,sqt _,SqL.of h1,λ q nq=>?_⟩;have lmin:min (kds.map V.str).length ((cs.map Wd.txt).map V.str).length=cs.length:=by rw [eB,eB,eB];omega
   refine compG_zipM (K:=K) (λ i H6=>i<=cs.length/\Same H5 H6/\∃ ws,H6 q=some (.lst ws)/\RowAt (WdIs a) H6 ws (cs.take i)) ⟨fP _,ak nq,[],ac,RowAt.nil⟩ (λ i H6 ⟨_,s6,_⟩=>⟨sqt _,SqL.of (s6 _ _ h1)⟩) ?_ ?_
   ·rintro i x y tt H6 hx hy nt ⟨_,s6,ws,h6,hv⟩ zs hzs;rw [eN] at hx hy;obtain ⟨kd,ek,rfl⟩:=fj.mp hx;obtain ⟨y',ey,rfl⟩:=fj.mp hy;rw [eN] at ey;obtain ⟨c,ec,rfl⟩:=fj.mp ey;have hi:i<cs.length:=(eG.mp ec).1;obtain ⟨H7,zq,s7',ht⟩:=uG (o:=.tup [.str kd,.str c.txt]) nt;rw [zq]
    match zs,hzs with
    | [w1,w2],_=>
     refine ⟨tt,[.str kd,.str c.txt],rfl,SqT.of ht,rfl,.str kd,[.str c.txt],rfl,⟨.str c.txt,[],rfl,⟨rfl,⟨[_,_],rfl,rfl⟩,yes ?_⟩⟩⟩;refine ⟨_,rfl,_,rfl,kd,c,rfl,ro.ok i kd c ek ec,λ v H8 s8 hv8=>?_⟩;have s78:=s7'.trans s8;have h8:=s78 _ _ h6;have lws:ws.length<=10:=by rw [hv.1,fQ];omega
     refine ⟨_,h8,a9 (by omega),nextP (by rw [lmin];exact hi) ⟨hi,b4 nq (s6.trans s78),_,ac,?_⟩⟩
     have ko:∀ v x,WdIs a H8 v x->WdIs a (upd H8 q (.lst (ws++[v]))) v x:=λ v' x h=>by
      cases x with
      | nm z=>exact h
      | fr x=>obtain ⟨r,e,dx,f⟩:=h;exact ⟨r,e,dx,by rw [ag (cy f h8 (by intro z;cases z))];exact f⟩
      | no=>exact h
     rw [List.take_add_one,ec,fY];refine RowAt.snoc (hv.mono λ v' x h=>?_) ?_
     ·have h:=h.mono s78
      cases x with
      | nm z=>exact h
      | fr x=>obtain ⟨r,e,dx,f⟩:=h;exact ⟨r,e,dx,by rw [ag (cy f h8 (by intro z;cases z))];exact f⟩
      | no=>exact h
     ·cases c with
      | nm z=>exact hv8
      | fr x=>obtain ⟨r,e,dx,f⟩:=hv8;exact ⟨r,e,dx,by rw [ag (cy f h8 (by intro z;cases z))];exact f⟩
      | no=>exact hv8
   ·rintro H6 ⟨_,s6,ws,h6,hv⟩;rw [lmin,List.take_length] at hv;have s46:=s45.trans s6;have lws:ws.length<=6:=by rw [hv.1];omega
    refine ⟨l0,q,_,_,rfl,rfl,s6 _ _ h05,h6,eQ (show 1+ws.length<=7 by omega) (by decide),λ l2 n2=>?_⟩;have s67:=ak (o:=.lst ([.str hd]++ws)) n2;exact ⟨l2,ws,rfl,(s1.trans s46).free n2,s1.trans (s46.trans s67),s46.trans s67,ac,hv.mono λ v x h=>h.mono s67⟩
  rintro zU hzU σ' H4 ⟨l,us,rfl,nl,s4,s34,hl,hr4⟩;have sql:=SqL.of (K:=K) hl;subst hzU;refine ⟨_,rfl,p,_,_,_,rfl,rfl,s34.seq sq,at0,rfl,_,rfl,?_⟩;by_cases hw:hd = "way"
  ·subst hw;obtain ⟨n,s',g,x,c,rfl⟩:=way_shape ro
   obtain ⟨u0,u1,u2,u3,u4,u5,rfl⟩:∃ u0 u1 u2 u3 u4 u5,us=[u0,u1,u2,u3,u4,u5]:=by
    match us,hr4.1 with
    | [u0,u1,u2,u3,u4,u5],_=>exact ⟨_,_,_,_,_,_,rfl⟩
   obtain rfl:u1=.str s':=hr4.2 1 _ _ rfl rfl;obtain rfl:u2=.str g:=hr4.2 2 _ _ rfl rfl;refine bY (eK rfl) ?_;refine ⟨_,rfl,l,_,_,_,rfl,rfl,sql,rfl,_,rfl,l,_,_,_,rfl,rfl,sql,rfl,rfl,_,rfl,?_⟩;by_cases e:s'=g
   ·refine bY (eK (fv V.str e)) ⟨by decide,kx ?_ _ s4⟩;show (decide (("way":Str) = "way") && decide (s'=g))=true;rw [eK e,eK rfl];rfl
   ·refine aU (eD λ z=>e (V.str.inj z)) ⟨_,rfl,k ?_ l H4 _ nl s4 hl hr4⟩;show (decide (("way":Str) = "way") && decide (s'=g))=false;rw [eD e,fZ]
  ·refine aU (eD λ z=>hw (V.str.inj z)) (iteF ⟨_,rfl,k ?_ l H4 us nl s4 hl hr4⟩);unfold sameW
   split
   ·rw [eD hw,Bool.false_and]
   ·rfl
end
end G
namespace G
open PySem L2
section
noncomputable def FrIs (a:Ad) (H:Hp) (v:V) (x:Rat):Prop:=∃ q,v=.ref q/\FrAt a.Fraction H q x
theorem FrIs.mono {H H':Hp} {v:V} {x:Rat} (h:FrIs a H v x) (s:Same H H'):FrIs a H' v x:=by
 obtain ⟨q,e,f⟩:=h
 exact ⟨q,e,f.mono s⟩
theorem FrIs.keep {H H':Hp} {v:V} {x:Rat} (h:FrIs a H v x) (s:KeepD H H'):FrIs a H' v x:=let ⟨q,e,d,f⟩:=h;⟨q,e,d,s _ _ f (by intro _ z;cases z) (by intro _ _ z;cases z)⟩
noncomputable def fsD (dw dy da:Addr):List (Str × V):=[("wants",.ref dw),("ways",.ref dy),("amounts",.ref da),("prices",.non),("bounds",.non)]
theorem bb {f g:Str} {v x:V} {r:List (Str × V)} (h:g≠f):aF f v ((g,x)::r)=(g,x)::aF f v r:=if_neg h
theorem putF_eq {f:Str} {v x:V} {r:List (Str × V)}:aF f v ((f,x)::r)=(f,v)::r:=if_pos rfl
theorem fsD_new (dw dy da:Addr):aF "bounds" .non (aF "prices" .non (aF "amounts" (.ref da) (aF "ways" (.ref dy) (aF "wants" (.ref dw) []))))=fsD dw dy da:=by
 show aF "bounds" .non (aF "prices" .non (aF "amounts" (.ref da) (aF "ways" (.ref dy) [(("wants":Str),V.ref dw)])))=_;rw [bb (by decide +kernel)];show aF "bounds" .non (aF "prices" .non (aF "amounts" (.ref da) [(("wants":Str),V.ref dw),(("ways":Str),V.ref dy)]))=_;rw [bb (by decide +kernel),bb (by decide +kernel)];show aF "bounds" .non (aF "prices" .non [(("wants":Str),V.ref dw),(("ways":Str),V.ref dy),(("amounts":Str),V.ref da)])=_;rw [bb (by decide +kernel),bb (by decide +kernel),bb (by decide +kernel)];show aF "bounds" .non [(("wants":Str),V.ref dw),(("ways":Str),V.ref dy),(("amounts":Str),V.ref da),(("prices":Str),V.non)]=_;rw [bb (by decide +kernel),bb (by decide +kernel),bb (by decide +kernel),bb (by decide +kernel)];rfl
theorem fsD_p (dw dy da:Addr):aF "prices" .non (fsD dw dy da)=fsD dw dy da:=by
 unfold fsD;rw [bb (by decide +kernel),bb (by decide +kernel),bb (by decide +kernel),putF_eq]
theorem fsD_b (dw dy da:Addr):aF "bounds" .non (fsD dw dy da)=fsD dw dy da:=by
 unfold fsD;rw [bb (by decide +kernel),bb (by decide +kernel),bb (by decide +kernel),bb (by decide +kernel),putF_eq]
theorem fsD_w (dw dy da:Addr):(fsD dw dy da).lookup ("wants":Str)=some (.ref dw):=rfl
theorem fsD_y (dw dy da:Addr):(fsD dw dy da).lookup ("ways":Str)=some (.ref dy):=by
 unfold fsD;rw [fb,show (("ways":Str) == "wants")=false by decide +kernel];rfl
theorem fsD_a (dw dy da:Addr):(fsD dw dy da).lookup ("amounts":Str)=some (.ref da):=by
 unfold fsD;rw [fb,show (("amounts":Str) == "wants")=false by decide +kernel,fb,show (("amounts":Str) == "ways")=false by decide +kernel];rfl
theorem c6 (dw dy da:Addr) {m:Str} (h:(m == "wants" || m == "ways" || m == "amounts" || m == "prices" || m == "bounds")=false):(fsD dw dy da).lookup m=none:=by
 simp only [Bool.or_eq_false_iff] at h;unfold fsD;rw [fb,h.1.1.1.1,fb,h.1.1.1.2,fb,h.1.1.2,fb,h.1.2,fb,h.2];rfl
structure DeskAt (a:Ad) (H:Hp) (p dw dy da:Addr) (ks:List Str) (f:Str->Rat) (ws:List Str) (g:Str->WD):Prop where
 ob:∃ dx,H p=some (.ins a.Desk dx (fsD dw dy da))
 wa:∃ kvs,H dw=some (.dK kvs)/\Tab (FrIs a) H kvs ks f
 wy:∃ kvs,H dy=some (.dK kvs)/\Tab (WayIs a) H kvs ws g
 am:H da=some (.dK [])
 n1:dw≠dy
 n2:dw≠da
 n3:dy≠da
theorem DeskAt.mono {H H':Hp} {p dw dy da:Addr} {ks:List Str} {f:Str->Rat} {ws:List Str} {g:Str->WD} (h:DeskAt a H p dw dy da ks f ws g) (s:Same H H'):DeskAt a H' p dw dy da ks f ws g:=by
 obtain ⟨dx,e⟩:=h.ob;obtain ⟨k1,e1,t1⟩:=h.wa;obtain ⟨k2,e2,t2⟩:=h.wy;exact ⟨⟨dx,s _ _ e⟩,⟨k1,s _ _ e1,t1.mono λ _ _ z=>FrIs.mono z s⟩,⟨k2,s _ _ e2,t2.mono λ _ _ z=>z.mono s⟩,s _ _ h.am,h.n1,h.n2,h.n3⟩
noncomputable def Kp2 (dw dy:Addr) (H H':Hp):Prop:=∀ b o,H b=some o->b≠dw->b≠dy->H' b=some o
theorem Kp2.of {dw dy:Addr} {H H':Hp} (s:Same H H'):Kp2 dw dy H H':=λ b o e _ _=>s b o e
theorem Kp2.trans {dw dy:Addr} {H H' H'':Hp} (s:Kp2 dw dy H H') (t:Kp2 dw dy H' H''):Kp2 dw dy H H'':=λ b o e n1 n2=>t b o (s b o e n1 n2) n1 n2
inductive IspDeskI (a:Ad) (vs:List V) (H:Hp) (Q:VK):Prop
 | mk (p dx:Addr) (h1:vs=[.ref p]) (h2:H p=some (.ins a.Desk dx [])) (h3:∀ H' dw dy da,H dw=none->H dy=none->H da=none->(∀ b o,H b=some o->b≠p->H' b=some o)->(∀ f g,DeskAt a H' p dw dy da [] f [] g)->Q .non H'):IspDeskI a vs H Q
noncomputable def spDeskI (a:Ad):Sp:=λ vs H Q _=>IspDeskI a vs H Q
theorem mk_Desk (T:TX K mg a):MkB P w K mg base CX0 a.Desk 1 ["self"] [] (spDeskI a):=by
 refine T.i_Desk.ok sc_Desk_init (λ vs H Q E h=>?_) (λ f cdv A outer s H vs Q E hr h=>?_) _ (by simp)
 ·obtain ⟨_,_,rfl,_⟩:=h;rfl
 ·obtain ⟨p,dx,rfl,hp,k⟩:=h
  refine ⟨_,(ad (bn (pv 0) bO rfl)
   (ad (bn (pv 0) bO rfl)
   (ad (bn (pv 0) bO rfl)
   (ad (bn (pv 0) bz rfl)
   (ae (bn (pv 0) bz rfl)))))),?_⟩
  try dsimp only [aL,Cx.nox,Cx.wish]
  intro dw n1;have e1:=ak (o:=.dK []) n1;have w1:upd H dw (.dK []) dw=some (.dK []):=ac;have p1:=e1 _ _ hp;have ne1:dw≠p:=λ z=>by rw [z,hp] at n1;cases n1
  generalize upd H dw (.dK [])=H1 at e1 w1 p1 ⊢;refine ⟨_,rfl,p,a.Desk,dx,[],rfl,p1,T.cl_Desk,T.na_Desk_wants,by decide,?_⟩;have k2:∀ b o,H b=some o->b≠p->upd H1 p (.ins a.Desk dx (aF "wants" (.ref dw) [])) b=some o:=λ b o e n=>by rw [ag n];exact e1 _ _ e
  have w2:upd H1 p (.ins a.Desk dx (aF "wants" (.ref dw) [])) dw=some (.dK []):=by rw [ag ne1];exact w1
  have p2:upd H1 p (.ins a.Desk dx (aF "wants" (.ref dw) [])) p=some (.ins a.Desk dx (aF "wants" (.ref dw) [])):=ac;generalize upd H1 p (.ins a.Desk dx (aF "wants" (.ref dw) []))=H2 at k2 w2 p2 ⊢;intro dy n3;have e3:=ak (o:=.dK []) n3;have y3:upd H2 dy (.dK []) dy=some (.dK []):=ac;have p3:=e3 _ _ p2;have w3:=e3 _ _ w2;have ne3:dy≠p:=λ z=>by rw [z,p2] at n3;cases n3
  have ne31:dw≠dy:=λ z=>by rw [<- z,w2] at n3;cases n3
  have h3:H dy=none:=by
   cases e:H dy with
   | none=>rfl
   | some o=>rw [k2 _ _ e ne3] at n3;cases n3
  have k3:∀ b o,H b=some o->b≠p->upd H2 dy (.dK []) b=some o:=λ b o e n=>e3 _ _ (k2 b o e n);generalize upd H2 dy (.dK [])=H3 at k3 y3 p3 w3 ⊢;refine ⟨_,rfl,p,a.Desk,dx,_,rfl,p3,T.cl_Desk,T.na_Desk_ways,eS (aG (eC 0)) (by decide),?_⟩;have k4:∀ b o,H b=some o->b≠p->upd H3 p (.ins a.Desk dx (aF "ways" (.ref dy) (aF "wants" (.ref dw) []))) b=some o:=λ b o e n=>by rw [ag n];exact k3 _ _ e n
  have w4:upd H3 p (.ins a.Desk dx (aF "ways" (.ref dy) (aF "wants" (.ref dw) []))) dw=some (.dK []):=by rw [ag ne1];exact w3
  have y4:upd H3 p (.ins a.Desk dx (aF "ways" (.ref dy) (aF "wants" (.ref dw) []))) dy=some (.dK []):=by rw [ag ne3];exact y3
  have p4:upd H3 p (.ins a.Desk dx (aF "ways" (.ref dy) (aF "wants" (.ref dw) []))) p=some (.ins a.Desk dx (aF "ways" (.ref dy) (aF "wants" (.ref dw) []))):=ac;generalize upd H3 p (.ins a.Desk dx (aF "ways" (.ref dy) (aF "wants" (.ref dw) [])))=H4 at k4 w4 y4 p4 ⊢;intro da n5;have e5:=ak (o:=.dK []) n5;have a5:upd H4 da (.dK []) da=some (.dK []):=ac;have p5:=e5 _ _ p4;have w5:=e5 _ _ w4;have y5:=e5 _ _ y4;have ne5:da≠p:=λ z=>by rw [z,p4] at n5;cases n5
  have ne51:dw≠da:=λ z=>by rw [<- z,w4] at n5;cases n5
  have ne52:dy≠da:=λ z=>by rw [<- z,y4] at n5;cases n5
  have h5:H da=none:=by
   cases e:H da with
   | none=>rfl
   | some o=>rw [k4 _ _ e ne5] at n5;cases n5
  have k5:∀ b o,H b=some o->b≠p->upd H4 da (.dK []) b=some o:=λ b o e n=>e5 _ _ (k4 b o e n);generalize upd H4 da (.dK [])=H5 at k5 a5 y5 p5 w5 ⊢;refine ⟨_,rfl,p,a.Desk,dx,_,rfl,p5,T.cl_Desk,T.na_Desk_amounts,eS (aG (aG (eC 0))) (by decide),?_⟩;refine ⟨_,rfl,p,a.Desk,dx,_,rfl,ac,T.cl_Desk,T.na_Desk_prices,eS (aG (aG (aG (eC 0)))) (by decide),?_⟩;rw [dN];refine ⟨_,rfl,p,a.Desk,dx,_,rfl,ac,T.cl_Desk,T.na_Desk_bounds,eS (aG (aG (aG (aG (eC 0))))) (by decide),?_⟩;rw [dN,fsD_new];refine k _ dw dy da n1 h3 h5 (λ b o e n=>by rw [ag n];exact k5 b o e n) λ f g=>⟨⟨dx,ac⟩,⟨[],by rw [ag ne1];exact w5,Tab.nil⟩,⟨[],by rw [ag ne3];exact y5,Tab.nil⟩,by rw [ag ne5];exact a5,ne31,ne51,ne52⟩
inductive IspForget (a:Ad) (vs:List V) (H:Hp) (Q:VK):Prop
 | mk (p dx dw dy da:Addr) (h1:vs=[.ref p]) (h2:H p=some (.ins a.Desk dx (fsD dw dy da))) (h3:Q .non H):IspForget a vs H Q
noncomputable def dQ (a:Ad):Sp:=λ vs H Q _=>IspForget a vs H Q
theorem bp (T:TX K mg a):MtB P w K mg base CX0 a.Desk "forget_prices" 1 ["self"] (dQ a):=by
 refine T.m_Desk_forget_prices.ok cN (λ vs H Q E h=>?_) (λ f cdv A outer s H vs Q E hr h=>?_)
 ·obtain ⟨_,_,_,_,_,rfl,_⟩:=h;rfl
 ·obtain ⟨p,dx,dw,dy,da,rfl,hp,k⟩:=h
  refine ⟨_,(ad (bn (pv 0) bz rfl)
   (ae (bn (pv 0) bz rfl))),?_⟩
  try dsimp only [aL,Cx.nox,Cx.wish]
  refine ⟨_,rfl,p,a.Desk,dx,_,rfl,hp,T.cl_Desk,T.na_Desk_prices,by show 5<1000;decide,?_⟩;rw [fsD_p,upd_id hp];refine ⟨_,rfl,p,a.Desk,dx,_,rfl,hp,T.cl_Desk,T.na_Desk_bounds,by show 5<1000;decide,?_⟩;rw [fsD_b,upd_id hp];exact k
inductive IspRefP (a:Ad) (vs:List V) (H:Hp) (Q:VK) (E:XK):Prop
 | mk (p dw dy da:Addr) (ks:List Str) (f:Str->Rat) (ws:List Str) (g:Str->WD) (n:Str) (h1:vs=[.ref p,.str n]) (h2:DeskAt a H p dw dy da ks f ws g) (h3:n.length<=1000) (h4:(n∈ks->Q .non H)) (h5:(¬ n∈ks->NoPlaceE a H n E)):IspRefP a vs H Q E
noncomputable def spRefP (a:Ad):Sp:=λ vs H Q E=>IspRefP a vs H Q E
theorem bP (T:TX K mg a):MtB P w K mg base (CX1 P w) a.Desk "refuse_place" 3 ["self","place"] (spRefP a):=by
 refine T.m_Desk_refuse_place.okX cR (λ vs H Q E h=>?_) (λ f cdv A outer s H vs Q E hr h=>?_)
 ·obtain ⟨_,_,_,_,_,_,_,_,_,rfl,_⟩:=h;rfl
 ·obtain ⟨p,dw,dy,da,ks,f,ws,g,n,rfl,D,ln,k,kx⟩:=h;refine ⟨_,(ae (aB (bH (bj (bd hr) (pv 1) (aP (pv 0) rfl))) (ae (ps_raiseI xout1 rfl hr (by rfl) T.mg_NoPlace (xi_NoPlace T) (aa (pv 1) af))) aj)),?_⟩;try dsimp only [aL,Cx.nox,Cx.wish]
  obtain ⟨dx,hp⟩:=D.ob;obtain ⟨kvs,hw,tb⟩:=D.wa;refine ⟨_,rfl,_,rfl,p,_,dx,_,_,rfl,hp,T.cl_Desk,T.na_Desk_wants,fsD_w _ _ _,dw,_,rfl,DGet.k (k:=Sum.inr n) hw,_,rfl,?_⟩;by_cases hn:n∈ks
  ·obtain ⟨v,ev,_⟩:=tb.vals n hn;rw [ev];exact iteF (k hn)
  ·rw [tb.none hn];exact iteT ⟨_,rfl,raise_np ln (kx hn)⟩
inductive Rw where
 | place (n:Str) (x:Rat)
 | way (n s g:Str) (x:Rat)
 | drop (n:Str)
noncomputable def Rw.hd:Rw->Str
 | .place _ _=>"place"
 | .way _ _ _ _=>"way"
 | .drop _=>"drop"
noncomputable def Rw.cs:Rw->List Wd
 | .place n x=>[.nm n,.fr x]
 | .way n s g x=>[.nm n,.nm s,.nm g,.fr x,.no,.fr 0]
 | .drop n=>[.nm n]
noncomputable def smallR (x:Rat):Prop:=x.num.natAbs<10 ^ 9/\x.den<10 ^ 9
noncomputable def Rw.ok:Rw->Prop
 | .place n x=>bG n=true/\smallR x
 | .way n s g x=>bG n=true/\bG s=true/\bG g=true/\smallR x/\0<x.num
 | .drop n=>bG n=true
noncomputable def Rw.kds:Rw->List Str
 | .place _ _=>["name","fraction"]
 | .way _ _ _ _=>["name","name","name","gain","high","fraction"]
 | .drop _=>["name"]
theorem Rw.rowOk {r:Rw} (h:r.ok):RowOk r.hd r.kds r.cs:=by
 cases r with
 | place n x=>
  refine ⟨(by decide:PyProof.Rows.KTD.datumAt ("place":Str) bB=some (["name","fraction"]:List Str)),rfl,λ j kd c e1 e2=>?_⟩
  match j with
  | 0=>cases e1;cases e2;exact ⟨rfl,h.1⟩
  | 1=>cases e1;cases e2;exact ⟨.inl rfl,h.2⟩
  | j+2=>cases e1
 | way n s g x=>
  refine ⟨(by decide:PyProof.Rows.KTD.datumAt ("way":Str) bB=some (["name","name","name","gain","high","fraction"]:List Str)),rfl,λ j kd c e1 e2=>?_⟩
  match j with
  | 0=>cases e1;cases e2;exact ⟨rfl,h.1⟩
  | 1=>cases e1;cases e2;exact ⟨rfl,h.2.1⟩
  | 2=>cases e1;cases e2;exact ⟨rfl,h.2.2.1⟩
  | 3=>cases e1;cases e2;exact ⟨.inr ⟨rfl,h.2.2.2.2⟩,h.2.2.2.1⟩
  | 4=>cases e1;cases e2;exact rfl
  | 5=>cases e1;cases e2;exact ⟨.inl rfl,by decide,by decide⟩
  | j+6=>cases e1
 | drop n=>
  refine ⟨(by decide:PyProof.Rows.KTD.datumAt ("drop":Str) bB=some (["name"]:List Str)),rfl,λ j kd c e1 e2=>?_⟩
  match j with
  | 0=>cases e1;cases e2;exact ⟨rfl,h⟩
  | j+1=>cases e1
noncomputable def Words (a:Ad) (H:Hp) (l:Addr) (r:Rw):Prop:=∃ us,H l=some (.lst (.str r.hd::us))/\RowAt (WdIs a) H us r.cs
theorem Words.mono {H H':Hp} {l:Addr} {r:Rw} (h:Words a H l r) (s:Same H H'):Words a H' l r:=by
 obtain ⟨us,e,k⟩:=h
 exact ⟨us,s _ _ e,k.mono λ _ _ z=>z.mono s⟩
theorem Words.place {H:Hp} {l:Addr} {n:Str} {x:Rat} (h:Words a H l (.place n x)):∃ q,H l=some (.lst [.str "place",.str n,.ref q])/\FrAt a.Fraction H q x:=by
 obtain ⟨us,e,k⟩:=h
 obtain ⟨u0,u1,rfl⟩:∃ u0 u1,us=[u0,u1]:=by
  match us,k.1 with
  | [u0,u1],_=>exact ⟨_,_,rfl⟩
 obtain rfl:u0=.str n:=k.2 0 _ _ rfl rfl;obtain ⟨q,rfl,f⟩:=k.2 1 _ _ rfl rfl;exact ⟨q,e,f⟩
theorem Words.way {H:Hp} {l:Addr} {n s g:Str} {x:Rat} (h:Words a H l (.way n s g x)):∃ q c,H l=some (.lst [.str "way",.str n,.str s,.str g,.ref q,.non,.ref c])/\FrAt a.Fraction H q x/\FrAt a.Fraction H c 0:=by
 obtain ⟨us,e,k⟩:=h
 obtain ⟨u0,u1,u2,u3,u4,u5,rfl⟩:∃ u0 u1 u2 u3 u4 u5,us=[u0,u1,u2,u3,u4,u5]:=by
  match us,k.1 with
  | [u0,u1,u2,u3,u4,u5],_=>exact ⟨_,_,_,_,_,_,rfl⟩
 obtain rfl:u0=.str n:=k.2 0 _ _ rfl rfl;obtain rfl:u1=.str s:=k.2 1 _ _ rfl rfl;obtain rfl:u2=.str g:=k.2 2 _ _ rfl rfl;obtain ⟨q,rfl,f⟩:=k.2 3 _ _ rfl rfl;obtain rfl:u4=.non:=k.2 4 _ _ rfl rfl;obtain ⟨c,rfl,f'⟩:=k.2 5 _ _ rfl rfl;exact ⟨q,c,e,f,f'⟩
theorem Words.drop {H:Hp} {l:Addr} {n:Str} (h:Words a H l (.drop n)):H l=some (.lst [.str "drop",.str n]):=by
 obtain ⟨us,e,k⟩:=h
 obtain ⟨u0,rfl⟩:∃ u0,us=[u0]:=by
  match us,k.1 with
  | [u0],_=>exact ⟨_,rfl⟩
 obtain rfl:u0=.str n:=k.2 0 _ _ rfl rfl;exact e
noncomputable def missP (ks:List Str):Rw->Option Str
 | .way _ s g _=>if s∈ks then if g∈ks then none else some g else some s
 | _=>none
noncomputable def dropOk (ws:List Str):Rw->Prop
 | .drop n=>n∈ws
 | _=>True
inductive IspRefM (a:Ad) (vs:List V) (H:Hp) (Q:VK) (E:XK):Prop
 | mk (p dw dy da:Addr) (ks:List Str) (f:Str->Rat) (ws:List Str) (g:Str->WD) (l:Addr) (r:Rw) (h1:vs=[.ref p,.ref l]) (h2:DeskAt a H p dw dy da ks f ws g) (h3:Words a H l r) (h4:r.ok) (h5:dropOk ws r) (h6:(missP ks r=none->∀ H',Same H H'->Q .non H')) (h7:(∀ n,missP ks r=some n->NoPlaceE a H n E)):IspRefM a vs H Q E
noncomputable def spRefM (a:Ad):Sp:=λ vs H Q E=>IspRefM a vs H Q E
theorem NoPlaceE.pre {H H1:Hp} {n:Str} {E:XK} (h:NoPlaceE a H n E) (s:Same H H1):NoPlaceE a H1 n E:=λ H' dx s' e=>h H' dx (s.trans s') e
theorem cF (T:TX K mg a):MtB P w K mg base (CX1 P w) a.Desk "refuse_missing" 4 ["self","words"] (spRefM a):=by
 refine T.m_Desk_refuse_missing.okX cD (λ vs H Q E h=>?_) (λ f cdv A outer s H vs Q E hr h=>?_)
 ·obtain ⟨_,_,_,_,_,_,_,_,_,_,rfl,_⟩:=h;rfl
 ·obtain ⟨p,dw,dy,da,ks,f,ws,g,l,r,rfl,D,W,ok,dok,k,kx⟩:=h
  refine ⟨_,(ad (aB (aq a8 (aK aE (pv 1) ai (λ _ _=>rfl)) au (aw _)) (ad (bf (bT (CX:=CX1 P w) (pv 0) hr pass1 (aa (aK aE (pv 1) ai (λ _ _=>rfl)) af)))
   (ae (bf (bT (CX:=CX1 P w) (pv 0) hr pass1 (aa (aK aE (pv 1) ai (λ _ _=>rfl)) af))))) aj)
   (ad (aB (aq op_in_seq (aK aE (pv 1) ai (λ _ _=>rfl)) (b8 (aa au (aa au (aa au af)))) (by with_unfolding_all rfl)) (ae (bf (bT (CX:=CX1 P w) (pv 0) hr pass1 (aa (aK aE (pv 1) ai (λ _ _=>rfl)) af)))) aj)
   (ae (aB (PW.pt (cn (aq op_in_seq (aK aE (pv 1) ai (λ _ _=>rfl)) (b8 (aa au (aa au (aa au (aa au af))))) (by with_unfolding_all rfl)) (ck (bH (bj (bd hr) (aK aE (pv 1) ai (λ _ _=>rfl)) (aP (pv 0) rfl)))))) (ae aO) aj)))),?_⟩
  try dsimp only [aL,Cx.nox,Cx.wish]
  obtain ⟨dx,hp⟩:=D.ob;have nop:=c6 dw dy da (m:="refuse_place") (by decide +kernel)
  cases r with
  | place n x=>
   obtain ⟨q,hl,fq⟩:=W.place;have sq:=SqL.of (K:=K) hl;refine ⟨_,rfl,l,_,_,_,rfl,rfl,sq,rfl,rfl,_,rfl,aU (by decide) ?_⟩;refine ⟨_,rfl,l,_,_,_,rfl,rfl,sq,rfl,zL3,λ t nt=>?_⟩;have s1:=ak (o:=.tup [.str "sum",.str "price",.str "most"]) nt;refine ⟨t,_,rfl,.inr (SqT.of ac),rfl,rfl,_,rfl,aU (by decide) ?_⟩;generalize upd H t (.tup [.str "sum",.str "price",.str "most"])=H1 at s1 ⊢;refine ⟨_,rfl,l,_,_,_,rfl,rfl,s1.seq sq,rfl,zL4,λ t2 nt2=>?_⟩;have s2:=ak (o:=.tup [.str "drop",.str "send",.str "amount",.str "bound"]) nt2;refine ⟨t2,_,rfl,.inr (SqT.of ac),rfl,rfl,_,rfl,aU (by decide) (iteF ?_)⟩;exact k rfl _ (s1.trans s2)
  | way n st go x=>
   obtain ⟨q,c,hl,fq,fc⟩:=W.way;have sq:=SqL.of (K:=K) hl;refine ⟨_,rfl,l,_,_,_,rfl,rfl,sq,rfl,rfl,_,rfl,bY (by decide) ?_⟩;have l1:=(ba ok.2.1).2.1;have l2:=(ba ok.2.2.1).2.1;refine ⟨_,rfl,p,a.Desk,dx,_,3,["self","place"],spRefP a,rfl,hp,nop,T.cl_Desk,by decide,bP T,_,rfl,l,_,_,_,rfl,rfl,sq,rfl,p,dw,dy,da,ks,f,ws,g,st,rfl,D,by omega,λ h1=>?_,λ h1=>kx st (if_neg h1)⟩;refine ⟨_,rfl,p,a.Desk,dx,_,3,["self","place"],spRefP a,rfl,hp,nop,T.cl_Desk,by decide,bP T,_,rfl,l,_,_,_,rfl,rfl,sq,rfl,p,dw,dy,da,ks,f,ws,g,go,rfl,D,by omega,λ h2=>?_,λ h2=>kx go ((if_pos h1).trans (if_neg h2))⟩;refine ⟨_,rfl,l,_,_,_,rfl,rfl,sq,rfl,zL3,λ t nt=>?_⟩;have s1:=ak (o:=.tup [.str "sum",.str "price",.str "most"]) nt;refine ⟨t,_,rfl,.inr (SqT.of ac),rfl,rfl,_,rfl,aU (by decide) ?_⟩;generalize upd H t (.tup [.str "sum",.str "price",.str "most"])=H1 at s1 ⊢;refine ⟨_,rfl,l,_,_,_,rfl,rfl,s1.seq sq,rfl,zL4,λ t2 nt2=>?_⟩;have s2:=ak (o:=.tup [.str "drop",.str "send",.str "amount",.str "bound"]) nt2;refine ⟨t2,_,rfl,.inr (SqT.of ac),rfl,rfl,_,rfl,aU (by decide) (iteF ?_)⟩;exact k ((if_pos h1).trans (if_pos h2)) _ (s1.trans s2)
  | drop n=>
   have hl:=W.drop;have sq:=SqL.of (K:=K) hl;refine ⟨_,rfl,l,_,_,_,rfl,rfl,sq,rfl,rfl,_,rfl,aU (by decide) ?_⟩;refine ⟨_,rfl,l,_,_,_,rfl,rfl,sq,rfl,zL3,λ t nt=>?_⟩;have s1:=ak (o:=.tup [.str "sum",.str "price",.str "most"]) nt;refine ⟨t,_,rfl,.inr (SqT.of ac),rfl,rfl,_,rfl,aU (by decide) ?_⟩;generalize upd H t (.tup [.str "sum",.str "price",.str "most"])=H1 at s1 ⊢;refine ⟨_,rfl,l,_,_,_,rfl,rfl,s1.seq sq,rfl,zL4,λ t2 nt2=>?_⟩;have s2:=ak (o:=.tup [.str "drop",.str "send",.str "amount",.str "bound"]) nt2;have s12:=s1.trans s2;refine ⟨t2,_,rfl,.inr (SqT.of ac),rfl,rfl,_,rfl,bY (by decide) ?_⟩;generalize upd H1 t2 (.tup [.str "drop",.str "send",.str "amount",.str "bound"])=H2 at s12 ⊢;obtain ⟨kvs,hy,tb⟩:=D.wy;obtain ⟨v,ev,_⟩:=tb.vals n dok;refine ⟨_,rfl,l,_,_,_,rfl,rfl,s12.seq sq,rfl,_,rfl,p,_,dx,_,_,rfl,s12 _ _ hp,T.cl_Desk,T.na_Desk_ways,fsD_y _ _ _,dy,_,rfl,DGet.k (k:=Sum.inr n) (s12 _ _ hy),_,rfl,?_⟩;rw [ev];exact iteF (k rfl _ s12)
noncomputable def manyB (ks ws:List Str):Rw->Bool
 | .place n _=>!decide (n∈ks) && decide (ks.length=12)
 | .way n _ _ _=>!decide (n∈ws) && decide (ws.length=24)
 | .drop _=>false
inductive IspRefT (a:Ad) (vs:List V) (H:Hp) (Q:VK) (E:XK):Prop
 | mk (p dw dy da:Addr) (ks:List Str) (f:Str->Rat) (ws:List Str) (g:Str->WD) (l:Addr) (r:Rw) (h1:vs=[.ref p,.ref l]) (h2:DeskAt a H p dw dy da ks f ws g) (h3:Words a H l r) (h4:(manyB ks ws r=false->Q .non H)) (h5:(manyB ks ws r=true->E (.ref a.TooMany) none H)):IspRefT a vs H Q E
noncomputable def spRefT (a:Ad):Sp:=λ vs H Q E=>IspRefT a vs H Q E
theorem cx (T:TX K mg a):MtB P w K mg base (CX1 P w) a.Desk "refuse_too_many" 3 ["self","words"] (spRefT a):=by
 refine T.m_Desk_refuse_too_many.okX cv (λ vs H Q E h=>?_) (λ f cdv A outer s H vs Q E hr h=>?_)
 ·obtain ⟨_,_,_,_,_,_,_,_,_,_,rfl,_⟩:=h;rfl
 ·obtain ⟨p,dw,dy,da,ks,f,ws,g,l,r,rfl,D,W,k,kx⟩:=h
  refine ⟨_,(ad (aB (PW.pt (cn (aq a8 (aK aE (pv 1) ai (λ _ _=>rfl)) au (aw _)) (cn (bH (bj (bd hr) (aK aE (pv 1) ai (λ _ _=>rfl)) (aP (pv 0) rfl))) (ck (aq a8 (az call_lenD (by rfl) T.z_len f6 (aa (aP (pv 0) rfl) af)) (pe_gi T.gi_MOST_PLACES) (aw _)))))) (ae (dW xout1 rfl hr.hd (by rfl) T.mg_TooMany T.ex_TooMany (aa au af))) aj)
   (ae (aB (PW.pt (cn (aq a8 (aK aE (pv 1) ai (λ _ _=>rfl)) au (aw _)) (cn (bH (bj (bd hr) (aK aE (pv 1) ai (λ _ _=>rfl)) (aP (pv 0) rfl))) (ck (aq a8 (az call_lenD (by rfl) T.z_len f6 (aa (aP (pv 0) rfl) af)) (pe_gi T.gi_MOST_WAYS) (aw _)))))) (ae (dW xout1 rfl hr.hd (by rfl) T.mg_TooMany T.ex_TooMany (aa au af))) aj))),?_⟩
  try dsimp only [aL,Cx.nox,Cx.wish]
  obtain ⟨dx,hp⟩:=D.ob
  cases r with
  | place n x=>
   obtain ⟨q,hl,fq⟩:=W.place;have sq:=SqL.of (K:=K) hl;obtain ⟨kvs,hw,tb⟩:=D.wa;have fin:∀ {A B:Prop},B->(if decide (V.str "place"=V.str "way")=true then A else B):=λ b=>aU (by decide) b;refine ⟨_,rfl,l,_,_,_,rfl,rfl,sq,rfl,rfl,_,rfl,bY (by decide) ?_⟩;refine ⟨_,rfl,l,_,_,_,rfl,rfl,sq,rfl,_,rfl,p,_,dx,_,_,rfl,hp,T.cl_Desk,T.na_Desk_wants,fsD_w _ _ _,dw,_,rfl,DGet.k (k:=Sum.inr n) hw,_,rfl,?_⟩;by_cases hn:n∈ks
   ·obtain ⟨v,ev,_⟩:=tb.vals n hn;rw [ev];refine iteF (iteF ⟨_,rfl,l,_,_,_,rfl,rfl,sq,rfl,rfl,_,rfl,fin (iteF (k ?_))⟩);show (!decide (n∈ks) && _)=false;rw [eK hn];rfl
   ·rw [tb.none hn];refine iteT ⟨_,rfl,p,_,dx,_,_,rfl,hp,T.cl_Desk,T.na_Desk_wants,fsD_w _ _ _,dw,kvs,rfl,hw,rfl,_,rfl,?_⟩;have lk:=tb.len;by_cases h12:ks.length=12
    ·refine bY (eK (by rw [lk,h12];rfl)) ⟨by decide,kx ?_⟩;show (!decide (n∈ks) && decide (ks.length=12))=true;rw [eD hn,eK h12];rfl
    ·refine aU (eD λ z=>h12 ?_) ⟨_,rfl,l,_,_,_,rfl,rfl,sq,rfl,rfl,_,rfl,fin (iteF (k ?_))⟩
     ·have:=V.int.inj z
      omega
     ·show (!decide (n∈ks) && decide (ks.length=12))=false;rw [eD h12,fZ]
  | way n st go x=>
   obtain ⟨q,c,hl,fq,fc⟩:=W.way;have sq:=SqL.of (K:=K) hl;obtain ⟨kvs,hw,tb⟩:=D.wy;refine ⟨_,rfl,l,_,_,_,rfl,rfl,sq,rfl,rfl,_,rfl,aU (by decide) (iteF ?_)⟩;refine ⟨_,rfl,l,_,_,_,rfl,rfl,sq,rfl,rfl,_,rfl,bY (by decide) ?_⟩;refine ⟨_,rfl,l,_,_,_,rfl,rfl,sq,rfl,_,rfl,p,_,dx,_,_,rfl,hp,T.cl_Desk,T.na_Desk_ways,fsD_y _ _ _,dy,_,rfl,DGet.k (k:=Sum.inr n) hw,_,rfl,?_⟩;by_cases hn:n∈ws
   ·obtain ⟨v,ev,_⟩:=tb.vals n hn;rw [ev];refine iteF (iteF (k ?_));show (!decide (n∈ws) && _)=false;rw [eK hn];rfl
   ·rw [tb.none hn];refine iteT ⟨_,rfl,p,_,dx,_,_,rfl,hp,T.cl_Desk,T.na_Desk_ways,fsD_y _ _ _,dy,kvs,rfl,hw,rfl,_,rfl,?_⟩;have lk:=tb.len;by_cases h12:ws.length=24
    ·refine bY (eK (by rw [lk,h12];rfl)) ⟨by decide,kx ?_⟩;show (!decide (n∈ws) && decide (ws.length=24))=true;rw [eD hn,eK h12];rfl
    ·refine aU (eD λ z=>h12 ?_) (k ?_)
     ·have:=V.int.inj z
      omega
     ·show (!decide (n∈ws) && decide (ws.length=24))=false;rw [eD h12,fZ]
  | drop n=>
   have hl:=W.drop;have sq:=SqL.of (K:=K) hl;refine ⟨_,rfl,l,_,_,_,rfl,rfl,sq,rfl,rfl,_,rfl,aU (by decide) (iteF ?_)⟩;exact ⟨_,rfl,l,_,_,_,rfl,rfl,sq,rfl,rfl,_,rfl,aU (by decide) (iteF (k rfl))⟩
noncomputable def spNo:Sp:=λ _ _ _ _=>False
theorem dH (T:TX K mg a):FnB P w K mg base CX0 "without_noughts" 1 ["plan"] spNo:=T.d_without_noughts.ok dD (λ vs H Q E h=>False.elim h) (λ f cdv A outer s H vs Q E hr h=>False.elim h)
theorem valV_drop {k k':Key} (h:k'≠k):∀ kvs:List (Key × V),aZ (aT kvs k) k'=aZ kvs k'
 | []=>rfl
 | kv::r=>by
  by_cases e:kv.1=k
  ·rw [dropK_pos e,valV_drop h r,aV λ z=>h (z.symm.trans e)]
  ·rw [dropK_neg e];by_cases e':kv.1=k'
   ·rw [aX e',aX e']
   ·rw [aV e',aV e',valV_drop h r]
noncomputable def offK (ks:List Str) (n:Str):List Str:=ks.filter λ m=>decide (m≠n)
theorem keys_drop {n:Str}:∀ {kvs:List (Key × V)} {ks:List Str},kvs.map (·.1)=ks.map (λ n=>(Sum.inr n:Key))->(aT kvs (Sum.inr n)).map (·.1)=(offK ks n).map (λ n=>(Sum.inr n:Key))
 | [],[],_=>rfl
 | [],_::_,h=>by cases h
 | _::_,[],h=>by cases h
 | kv::kvs,m::ks,h=>by
  obtain ⟨h1,h2⟩:=List.cons.inj (show kv.1::kvs.map (·.1)=Sum.inr m::ks.map (λ n=>(Sum.inr n:Key)) from h);unfold offK;by_cases e:m=n
  ·rw [dropK_pos (h1.trans (fv Sum.inr e)),List.filter_cons_of_neg (by rw [e];simp)];exact keys_drop h2
  ·rw [dropK_neg (λ z=>e (Sum.inr.inj (h1.symm.trans z))),List.filter_cons_of_pos (by exact eK e),fz,fz,h1];exact fv _ (keys_drop h2)
theorem mem_offK {ks:List Str} {n m:Str}:m∈offK ks n↔m∈ks/\m≠n:=by unfold offK;rw [List.mem_filter,decide_eq_true_iff]
theorem Tab.off {α:Type} {R:Hp->V->α->Prop} {H:Hp} {kvs:List (Key × V)} {ks:List Str} {f:Str->α} {n:Str} (t:Tab R H kvs ks f):Tab R H (aT kvs (Sum.inr n)) (offK ks n) f:=
 ⟨keys_drop t.keys,λ m hm=>by
  obtain ⟨h1,h2⟩:=mem_offK.mp hm;rw [valV_drop λ z=>h2 (Sum.inr.inj z)];exact t.vals m h1⟩
noncomputable def ksN (ks:List Str):Rw->List Str
 | .place n _=>cg ks n
 | _=>ks
noncomputable def fN (f:Str->Rat):Rw->Str->Rat
 | .place n x=>upf f n x
 | _=>f
noncomputable def wsN (ws:List Str):Rw->List Str
 | .way n _ _ _=>cg ws n
 | .drop n=>offK ws n
 | _=>ws
noncomputable def gN (g:Str->WD):Rw->Str->WD
 | .way n s go x=>upf g n ⟨n,s,go,.gro,x⟩
 | _=>g
noncomputable def wayOk:Rw->Prop
 | .way _ s g _=>s≠g
 | _=>True
inductive IspChange (a:Ad) (vs:List V) (H:Hp) (Q:VK):Prop
 | mk (p dw dy da:Addr) (ks:List Str) (f:Str->Rat) (ws:List Str) (g:Str->WD) (l:Addr) (r:Rw) (h1:vs=[.ref p,.ref l]) (h2:DeskAt a H p dw dy da ks f ws g) (h3:Words a H l r) (h4:r.ok) (h5:dropOk ws r) (h6:wayOk r) (h7:ks.length<=100) (h8:ws.length<=100) (h9:∀ H',Kp2 dw dy H H'->DeskAt a H' p dw dy da (ksN ks r) (fN f r) (wsN ws r) (gN g r)->Q .non H'):IspChange a vs H Q
noncomputable def spChange (a:Ad):Sp:=λ vs H Q _=>IspChange a vs H Q
theorem ok_Desk_change (T:TX K mg a):MtB P w K mg base CX0 a.Desk "change" 7 ["self","words"] (spChange a):=by
 refine T.m_Desk_change.ok sc_Desk_change (λ vs H Q E h=>?_) (λ f cdv A outer s H vs Q E hr h=>?_)
 ·obtain ⟨_,_,_,_,_,_,_,_,_,_,rfl,_⟩:=h;rfl
 ·obtain ⟨p,dw,dy,da,ks,f,ws,g,l,r,rfl,D,W,ok,dok,wok,lks,lws,k⟩:=h
  refine ⟨_,(ad (aD (i:=2) sc_Desk_change.nd rfl (Or.inl rfl) (aK aE (pv 1) ai (λ _ _=>rfl)))
   (ad (aB (aq a8 (aK aE (pv 1) ai (λ _ _=>rfl)) au (aw _)) (ad (bX (bd hr) (aP (pv 0) rfl) (pv 2) (aK aE (pv 1) ai (λ _ _=>rfl)) rfl)
   (ad (bn (pv 0) (aN (dH T) hr aC (aa (aP (pv 0) rfl) af)) rfl)
   (ae ps_retN))) aj)
   (ad (aB (aq a8 (aK aE (pv 1) ai (λ _ _=>rfl)) au (aw _)) (ae (bX (bd hr) (aP (pv 0) rfl) (pv 2) (aK aE (pv 1) ai (λ _ _=>rfl)) rfl)) aj)
   (ad (aB (aq a8 (aK aE (pv 1) ai (λ _ _=>rfl)) au (aw _)) (ae (bX (bd hr) (aP (pv 0) rfl) (pv 2) (pe_mk (mk_Growing T) hr T.mg_Growing aC (aa (pv 2) (aa (aK aE (pv 1) ai (λ _ _=>rfl)) (aa (aK aE (pv 1) ai (λ _ _=>rfl)) (aa (aK aE (pv 1) ai (λ _ _=>rfl)) (aa (aK aE (pv 1) ai (λ _ _=>rfl)) (aa (aK aE (pv 1) ai (λ _ _=>rfl)) af))))))) rfl)) aj)
   (ad (aB (aq a8 (aK aE (pv 1) ai (λ _ _=>rfl)) au (aw _)) (ad (bf (pe_dpop1 (aP (pv 0) rfl) (pv 2) ⟨rfl,rfl,rfl,rfl⟩))
   (ae (bf (pe_bm fR PySem.F.slot_dict_pop PySem.F.type_dict_pop mt_dpop (aP (pv 0) rfl) (aa (pv 2) (aa bz af)))))) aj)
   (ae (bf (cE (CX:=CX0) (pv 0) hr aC)))))))),?_⟩
  try dsimp only [aL,Cx.nox,Cx.wish]
  obtain ⟨dx,hp⟩:=D.ob;obtain ⟨kw,hw,tw⟩:=D.wa;obtain ⟨ky,hy,ty⟩:=D.wy;have nof:=c6 dw dy da (m:="forget_prices") (by decide +kernel);have npw:p≠dw:=λ z=>by rw [z,hw] at hp;cases hp
  have npy:p≠dy:=λ z=>by rw [z,hy] at hp;cases hp
  have l1:=tw.len;have l2:=ty.len
  cases r with
  | place n x=>
   obtain ⟨q,hl,fq⟩:=W.place;have sq:=SqL.of (K:=K) hl;refine ⟨_,rfl,l,_,_,_,rfl,rfl,sq,rfl,?_⟩;refine ⟨_,rfl,l,_,_,_,rfl,rfl,sq,rfl,rfl,_,rfl,aU (by decide) ?_⟩;refine ⟨_,rfl,l,_,_,_,rfl,rfl,sq,rfl,rfl,_,rfl,bY (by decide) ?_⟩;refine ⟨_,rfl,l,_,_,_,rfl,rfl,sq,rfl,_,rfl,p,_,dx,_,_,rfl,hp,T.cl_Desk,T.na_Desk_wants,fsD_w _ _ _,_,rfl,dw,_,rfl,DPut.k (k:=Sum.inr n) hw (a9 (by omega)),?_⟩;have kd:KeepD H (upd H dw (.dK (aJ kw (Sum.inr n) (.ref q)))):=.put hw;have kp:Kp2 dw dy H (upd H dw (.dK (aJ kw (Sum.inr n) (.ref q)))):=λ b o e n1 _=>by rw [ag n1];exact e
   have t1:Tab (FrIs a) (upd H dw (.dK (aJ kw (Sum.inr n) (.ref q)))) (aJ kw (Sum.inr n) (.ref q)) (cg ks n) (upf f n x):=Tab.put (tw.mono λ v y z=>z.keep kd) (FrIs.keep ⟨q,rfl,fq⟩ kd);have t2:Tab (WayIs a) (upd H dw (.dK (aJ kw (Sum.inr n) (.ref q)))) ky ws g:=ty.mono λ v y z=>z.put hw;have e1:upd H dw (.dK (aJ kw (Sum.inr n) (.ref q))) dw=some (.dK (aJ kw (Sum.inr n) (.ref q))):=ac;have e2:upd H dw (.dK (aJ kw (Sum.inr n) (.ref q))) dy=some (.dK ky):=by rw [ag D.n1.symm];exact hy
   have e3:upd H dw (.dK (aJ kw (Sum.inr n) (.ref q))) da=some (.dK []):=by rw [ag D.n2.symm];exact D.am
   have e4:upd H dw (.dK (aJ kw (Sum.inr n) (.ref q))) p=some (.ins a.Desk dx (fsD dw dy da)):=by rw [ag npw];exact hp
   have e5:SqL K (upd H dw (.dK (aJ kw (Sum.inr n) (.ref q)))) l [.str "place",.str n,.ref q]:=SqL.of (by rw [ag λ z=>by rw [z,hw] at hl;cases hl];exact hl);generalize upd H dw (.dK (aJ kw (Sum.inr n) (.ref q)))=H1 at kp t1 t2 e1 e2 e3 e4 e5 ⊢;refine ⟨_,rfl,l,_,_,_,rfl,rfl,e5,rfl,rfl,_,rfl,aU (by decide) ?_⟩;refine ⟨_,rfl,l,_,_,_,rfl,rfl,e5,rfl,rfl,_,rfl,aU (by decide) ?_⟩;exact ⟨_,rfl,p,a.Desk,dx,_,1,["self"],dQ a,rfl,e4,nof,T.cl_Desk,by decide,bp T,p,dx,dw,dy,da,rfl,e4,k H1 kp ⟨⟨dx,e4⟩,⟨_,e1,t1⟩,⟨_,e2,t2⟩,e3,D.n1,D.n2,D.n3⟩⟩
  | way n st go x=>
   obtain ⟨q,c,hl,fq,fc⟩:=W.way;have sq:=SqL.of (K:=K) hl;refine ⟨_,rfl,l,_,_,_,rfl,rfl,sq,rfl,?_⟩;refine ⟨_,rfl,l,_,_,_,rfl,rfl,sq,rfl,rfl,_,rfl,aU (by decide) ?_⟩;refine ⟨_,rfl,l,_,_,_,rfl,rfl,sq,rfl,rfl,_,rfl,aU (by decide) ?_⟩;refine ⟨_,rfl,l,_,_,_,rfl,rfl,sq,rfl,rfl,_,rfl,bY (by decide) ?_⟩;refine ⟨_,rfl,_,rfl,l,_,_,_,rfl,rfl,sq,rfl,_,rfl,l,_,_,_,rfl,rfl,sq,rfl,_,rfl,l,_,_,_,rfl,rfl,sq,rfl,_,rfl,l,_,_,_,rfl,rfl,sq,rfl,_,rfl,l,_,_,_,rfl,rfl,sq,rfl,?_⟩;intro z dz nz nd _;have ss:=same_two (C:=a.Growing) nz nd;refine ⟨z,_,dz,n,st,go,.non,.ref c,q,x,rfl,ac,T.wG,T.na_Growing_rate,wok,fq.mono ss,ok.2.2.2.2,.inl rfl,λ H1 fs vc' h5 hlk co hs ho=>⟨rfl,?_⟩⟩;have s1:=same_new nz nd hs;have W1:WayAt a H1 z .gro n st go .non vc' q x:=⟨⟨dz,fs,ho,h5,λ _=>hlk⟩,λ _=>fq.mono s1⟩;have hp1:=s1 _ _ hp;have hw1:=s1 _ _ hw;have hy1:=s1 _ _ hy;have ha1:=s1 _ _ D.am;have hl1:=s1 _ _ hl;have tw1:=tw.mono λ v y z=>FrIs.mono z s1;have ty1:=ty.mono λ v y z=>z.mono s1;refine ⟨_,rfl,p,_,dx,_,_,rfl,hp1,T.cl_Desk,T.na_Desk_ways,fsD_y _ _ _,_,rfl,dy,_,rfl,DPut.k (k:=Sum.inr n) hy1 (a9 (by omega)),?_⟩;have kd:KeepD H1 (upd H1 dy (.dK (aJ ky (Sum.inr n) (.ref z)))):=.put hy1;have kp:Kp2 dw dy H (upd H1 dy (.dK (aJ ky (Sum.inr n) (.ref z)))):=λ b o e _ n1=>by rw [ag n1];exact s1 _ _ e
   have wz:WayIs a H1 (.ref z) ⟨n,st,go,.gro,x⟩:=⟨z,_,_,_,rfl,W1,by nofun⟩;have t2:Tab (WayIs a) (upd H1 dy (.dK (aJ ky (Sum.inr n) (.ref z)))) (aJ ky (Sum.inr n) (.ref z)) (cg ws n) (upf g n ⟨n,st,go,.gro,x⟩):=Tab.put (ty1.mono λ v y h=>h.put hy1) (wz.put hy1);have t1:Tab (FrIs a) (upd H1 dy (.dK (aJ ky (Sum.inr n) (.ref z)))) kw ks f:=tw1.mono λ v y h=>h.keep kd;have e1:upd H1 dy (.dK (aJ ky (Sum.inr n) (.ref z))) dy=some (.dK (aJ ky (Sum.inr n) (.ref z))):=ac;have e2:upd H1 dy (.dK (aJ ky (Sum.inr n) (.ref z))) dw=some (.dK kw):=by rw [ag D.n1];exact hw1
   have e3:upd H1 dy (.dK (aJ ky (Sum.inr n) (.ref z))) da=some (.dK []):=by rw [ag D.n3.symm];exact ha1
   have e4:upd H1 dy (.dK (aJ ky (Sum.inr n) (.ref z))) p=some (.ins a.Desk dx (fsD dw dy da)):=by rw [ag npy];exact hp1
   have e5:SqL K (upd H1 dy (.dK (aJ ky (Sum.inr n) (.ref z)))) l [.str "way",.str n,.str st,.str go,.ref q,.non,.ref c]:=SqL.of (by rw [ag λ z=>by rw [z,hy1] at hl1;cases hl1];exact hl1);generalize upd H1 dy (.dK (aJ ky (Sum.inr n) (.ref z)))=H2 at kp t1 t2 e1 e2 e3 e4 e5 ⊢;refine ⟨_,rfl,l,_,_,_,rfl,rfl,e5,rfl,rfl,_,rfl,aU (by decide) ?_⟩;exact ⟨_,rfl,p,a.Desk,dx,_,1,["self"],dQ a,rfl,e4,nof,T.cl_Desk,by decide,bp T,p,dx,dw,dy,da,rfl,e4,k H2 kp ⟨⟨dx,e4⟩,⟨_,e2,t1⟩,⟨_,e1,t2⟩,e3,D.n1,D.n2,D.n3⟩⟩
  | drop n=>
   have hl:=W.drop;have sq:=SqL.of (K:=K) hl;obtain ⟨v,ev,_⟩:=ty.vals n dok;refine ⟨_,rfl,l,_,_,_,rfl,rfl,sq,rfl,?_⟩;refine ⟨_,rfl,l,_,_,_,rfl,rfl,sq,rfl,rfl,_,rfl,aU (by decide) ?_⟩;refine ⟨_,rfl,l,_,_,_,rfl,rfl,sq,rfl,rfl,_,rfl,aU (by decide) ?_⟩;refine ⟨_,rfl,l,_,_,_,rfl,rfl,sq,rfl,rfl,_,rfl,aU (by decide) ?_⟩;refine ⟨_,rfl,l,_,_,_,rfl,rfl,sq,rfl,rfl,_,rfl,bY (by decide) ?_⟩;refine ⟨_,rfl,p,_,dx,_,_,rfl,hp,T.cl_Desk,T.na_Desk_ways,fsD_y _ _ _,dy,rfl,.inl ⟨ky,.inl hy⟩,_,rfl,ky,Sum.inr n,v,hy,rfl,ev,?_⟩;have kd:KeepD H (upd H dy (.dK (aT ky (Sum.inr n)))):=.put hy;have kp:Kp2 dw dy H (upd H dy (.dK (aT ky (Sum.inr n)))):=λ b o e _ n1=>by rw [ag n1];exact e
   have t1:Tab (FrIs a) (upd H dy (.dK (aT ky (Sum.inr n)))) kw ks f:=tw.mono λ v y h=>h.keep kd;have t2:Tab (WayIs a) (upd H dy (.dK (aT ky (Sum.inr n)))) (aT ky (Sum.inr n)) (offK ws n) g:=(ty.mono λ v y h=>h.put hy).off;have e1:upd H dy (.dK (aT ky (Sum.inr n))) dy=some (.dK (aT ky (Sum.inr n))):=ac;have e2:upd H dy (.dK (aT ky (Sum.inr n))) dw=some (.dK kw):=by rw [ag D.n1];exact hw
   have e3:upd H dy (.dK (aT ky (Sum.inr n))) da=some (.dK []):=by rw [ag D.n3.symm];exact D.am
   have e4:upd H dy (.dK (aT ky (Sum.inr n))) p=some (.ins a.Desk dx (fsD dw dy da)):=by rw [ag npy];exact hp
   generalize upd H dy (.dK (aT ky (Sum.inr n)))=H2 at kp t1 t2 e1 e2 e3 e4 ⊢;refine ⟨_,rfl,p,_,dx,_,_,rfl,e4,T.cl_Desk,T.na_Desk_amounts,fsD_a _ _ _,.inr (.inr (.inl ⟨rfl,.inl ⟨[],e3⟩⟩)),_,rfl,da,[],Sum.inr n,.non,rfl,rfl,e3,(λ v e=>by cases e),λ _=>?_⟩;exact ⟨_,rfl,p,a.Desk,dx,_,1,["self"],dQ a,rfl,e4,nof,T.cl_Desk,by decide,bp T,p,dx,dw,dy,da,rfl,e4,k H2 kp ⟨⟨dx,e4⟩,⟨_,e2,t1⟩,⟨_,e1,t2⟩,e3,D.n1,D.n2,D.n3⟩⟩
noncomputable def cO (ks ws:List Str) (r:Rw):Option (Nat × Str):=if sameW r.hd r.cs=true then some (0,"") else match missP ks r with
 | some n=>some (1,n)
 | none=>if manyB ks ws r=true then some (2,"") else none
noncomputable def XDueD (a:Ad) (H:Hp) (E:XK) (x:Nat × Str):Prop:=(x.1=0->∀ H',Same H H'->E (.ref a.NoRow) none H')/\(x.1=1->NoPlaceE a H x.2 E)/\(x.1=2->∀ H',Same H H'->E (.ref a.TooMany) none H')
theorem sameW_way {r:Rw} (h:sameW r.hd r.cs=false):wayOk r:=by
 cases r with
 | place n x=>trivial
 | way n s g x=>
  intro e;have h:(decide (("way":Str) = "way") && decide (s=g))=false:=h;rw [eK e] at h
  cases h
 | drop n=>trivial
theorem Rw.hd_in (r:Rw):inV (.str r.hd) [.str "place",.str "way",.str "drop",.str "send"]=true:=by
 cases r
 ·exact (by decide:inV (.str "place") [.str "place",.str "way",.str "drop",.str "send"]=true)
 ·exact (by decide:inV (.str "way") [.str "place",.str "way",.str "drop",.str "send"]=true)
 ·exact (by decide:inV (.str "drop") [.str "place",.str "way",.str "drop",.str "send"]=true)
inductive IspSay (a:Ad) (vs:List V) (H:Hp) (Q:VK) (E:XK):Prop
 | mk (p dw dy da:Addr) (ks:List Str) (f:Str->Rat) (ws:List Str) (g:Str->WD) (r:Rw) (h1:vs=[.ref p,.str (Str.join ⟨#[32]⟩ (r.hd::r.cs.map Wd.txt))]) (h2:DeskAt a H p dw dy da ks f ws g) (h3:r.ok) (h4:dropOk ws r) (h5:ks.length<=100) (h6:ws.length<=100) (h7:(cO ks ws r=none->∀ H',Kp2 dw dy H H'->DeskAt a H' p dw dy da (ksN ks r) (fN f r) (wsN ws r) (gN g r)->Q (.str "ok") H')) (h8:(∀ x,cO ks ws r=some x->XDueD a H E x)):IspSay a vs H Q E
noncomputable def spSay (a:Ad):Sp:=λ vs H Q E=>IspSay a vs H Q E
theorem cZ (T:TX K mg a):MtB P w K mg base (CX1 P w) a.Desk "say" 9 ["self","row"] (spSay a):=by
 refine T.m_Desk_say.okX sc_Desk_say (λ vs H Q E h=>?_) (λ f cdv A outer s H vs Q E hr h=>?_)
 ·obtain ⟨_,_,_,_,_,_,_,_,_,rfl,_⟩:=h;rfl
 ·obtain ⟨p,dw,dy,da,ks,f,ws,g,r,rfl,D,ok,dok,l1,l2,k,kx⟩:=h
  refine ⟨_,(ad (aD (i:=2) sc_Desk_say.nd rfl (Or.inl rfl) (aN (ok_read_rowX T) hr pass1 (aa (pv 1) af)))
   (ad (bf (bT (CX:=CX1 P w) (pv 0) hr pass1 (aa (pv 2) af)))
   (ad (bf (bT (CX:=CX1 P w) (pv 0) hr pass1 (aa (pv 2) af)))
   (ad (aB (aq op_in_seq (aK aE (pv 2) ai (λ _ _=>rfl)) (b8 (aa au (aa au (aa au (aa au af))))) (by with_unfolding_all rfl)) (ad (bf (bT (CX:=CX0) (pv 0) hr aC (aa (pv 2) af)))
   (ae (av au))) aj)
   (ad (aB (aq a8 (aK aE (pv 2) ai (λ _ _=>rfl)) au (aw _)) (ae (av (cE (CX:=CX0) (pv 0) hr aC))) aj)
   (ad (aB (aq a8 (aK aE (pv 2) ai (λ _ _=>rfl)) au (aw _)) (ae (av (bT (CX:=CX0) (pv 0) hr aC (aa (aK aE (pv 2) ai (λ _ _=>rfl)) af)))) aj)
   (ae (av (bT (CX:=CX0) (pv 0) hr aC (aa (pv 2) af)))))))))),?_⟩
  try dsimp only [aL,Cx.nox,Cx.wish]
  obtain ⟨dx,hp⟩:=D.ob;have no1:=c6 dw dy da (m:="refuse_missing") (by decide +kernel);have no2:=c6 dw dy da (m:="refuse_too_many") (by decide +kernel);have no3:=c6 dw dy da (m:="change") (by decide +kernel);refine ⟨_,rfl,r.hd,r.kds,r.cs,rfl,Rw.rowOk ok,λ e1 l H1 us nl s1 hl hr1=>?_,λ e1=>(kx (0,"") (by unfold cO;rw [if_pos e1])).1 rfl⟩;have W:Words a H1 l r:=⟨us,hl,hr1⟩;have D1:=D.mono s1;have hp1:=s1 _ _ hp;refine ⟨_,rfl,p,a.Desk,dx,_,4,["self","words"],spRefM a,rfl,hp1,no1,T.cl_Desk,by decide,cF T,_,rfl,p,dw,dy,da,ks,f,ws,g,l,r,rfl,D1,W,ok,dok,λ e2 H2 s2=>?_,λ n e2=>NoPlaceE.pre ((kx (1,n) (by unfold cO;rw [if_neg (by rw [e1];decide),e2])).2.1 rfl) s1⟩;have s12:=s1.trans s2;have D2:=D.mono s12;have W2:=W.mono s2;have hp2:=s12 _ _ hp;refine ⟨_,rfl,p,a.Desk,dx,_,3,["self","words"],spRefT a,rfl,hp2,no2,T.cl_Desk,by decide,cx T,_,rfl,p,dw,dy,da,ks,f,ws,g,l,r,rfl,D2,W2,λ e3=>?_,λ e3=>(kx (2,"") (by unfold cO;rw [if_neg (by rw [e1];decide),e2];exact if_pos e3)).2.2 rfl H2 s12⟩;have hl2:=s2 _ _ hl;refine ⟨_,rfl,l,_,_,_,rfl,rfl,SqL.of hl2,at0,zL4,λ t nt=>?_⟩;have s3:=ak (o:=.tup [.str "place",.str "way",.str "drop",.str "send"]) nt;have s13:=s12.trans s3;refine ⟨t,_,rfl,.inr (SqT.of ac),rfl,rfl,_,rfl,bY r.hd_in ?_⟩;generalize upd H2 t (.tup [.str "place",.str "way",.str "drop",.str "send"])=H3 at s3 s13 ⊢;have hp3:=s13 _ _ hp;refine ⟨_,rfl,p,a.Desk,dx,_,7,["self","words"],spChange a,rfl,hp3,no3,T.cl_Desk,by decide,ok_Desk_change T,_,rfl,p,dw,dy,da,ks,f,ws,g,l,r,rfl,D.mono s13,W2.mono s3,ok,dok,sameW_way e1,l1,l2,λ H4 kp D4=>?_⟩;exact k (by unfold cO;rw [if_neg (by rw [e1];decide),e2];exact if_neg (by rw [e3];decide)) H4 ((Kp2.of s13).trans kp) D4
inductive IspDNet (a:Ad) (vs:List V) (H:Hp) (Q:VK):Prop
 | mk (p dw dy da:Addr) (ks:List Str) (f:Str->Rat) (ws:List Str) (g:Str->WD) (h1:vs=[.ref p]) (h2:DeskAt a H p dw dy da ks f ws g) (h3:ks.Nodup) (h4:NetOk (ks.map λ n=>(n,f n)) (ws.map g)) (h5:(∀ n∈ws,(g n).nm=n)) (h6:∀ q H',H q=none->Same H H'->NetNew a H H' q (ks.map λ n=>(n,f n)) (ws.map g)->Q (.ref q) H'):IspDNet a vs H Q
noncomputable def spDNet (a:Ad):Sp:=λ vs H Q _=>IspDNet a vs H Q
theorem Tab.row {α:Type} {R:Hp->V->α->Prop} {H:Hp} {kvs:List (Key × V)} {ks:List Str} {f:Str->α} (t:Tab R H kvs ks f) (nd:ks.Nodup):RowAt R H (kvs.map (·.2)) (ks.map f):=by
 refine ⟨by rw [eB,eB,t.len],λ i v x e1 e2=>?_⟩;rw [eN] at e1 e2;obtain ⟨kv,ek,rfl⟩:=fj.mp e1;obtain ⟨n,en,rfl⟩:=fj.mp e2;obtain ⟨n',en',_,_,r⟩:=t.at_ nd ek;rw [en] at en'
 cases en';exact r
theorem ok_Desk_net (T:TX K mg a):MtB P w K mg base CX0 a.Desk "net" 6 ["self"] (spDNet a):=by
 refine T.m_Desk_net.ok sc_Desk_net (λ vs H Q E h=>?_) (λ f cdv A outer s H vs Q E hr h=>?_)
 ·obtain ⟨_,_,_,_,_,_,_,_,rfl,_⟩:=h;rfl
 ·obtain ⟨p,dw,dy,da,ks,f,ws,g,rfl,D,nd,ok,gn,k⟩:=h;refine ⟨_,(ae (av (pe_mk (mk_Net T) hr T.mg_Net aC (aa (aQ (call_list_items hr.hd) (by rfl) T.z_list fT (aa (pe_bm0 fR PySem.F.slot_dict_items PySem.F.type_dict_items mt_itemsV (aP (pv 0) rfl)) af)) (aa (aQ (c7 hr.hd) (by rfl) T.z_list fT (aa (pe_bm0 fR PySem.F.slot_dict_values PySem.F.type_dict_values mt_values (aP (pv 0) rfl)) af)) af))))),?_⟩;try dsimp only [aL,Cx.nox,Cx.wish]
  obtain ⟨dx,hp⟩:=D.ob;obtain ⟨kw,hw,tw⟩:=D.wa;obtain ⟨ky,hy,ty⟩:=D.wy
  have ndw:ws.Nodup:=by
   have:=ok.nd
   rw [ft,show (ws.map ((·.nm) ∘ g))=ws from (List.map_congr_left λ n hn=>gn n hn).trans (List.map_id _)] at this;exact this
  refine ⟨_,rfl,p,_,dx,_,_,rfl,hp,T.cl_Desk,T.na_Desk_wants,fsD_w _ _ _,.inr (.inr (.inl ⟨rfl,.inl ⟨kw,hw⟩⟩)),dw,kw,rfl,rfl,.inl hw,λ v nv=>?_⟩;have s1:=ak (o:=ViewI v dw) nv;refine ⟨v,dw,kw,rfl,ac,.inl (s1 _ _ hw),λ lp H2 tp nlp s2 hlp ltp htp=>?_⟩;have s12:=s1.trans s2;refine ⟨_,rfl,p,_,dx,_,_,rfl,s12 _ _ hp,T.cl_Desk,T.na_Desk_ways,fsD_y _ _ _,.inr (.inr (.inl ⟨rfl,.inl ⟨ky,s12 _ _ hy⟩⟩)),dy,ky,rfl,rfl,.inl (s12 _ _ hy),λ v2 nv2=>?_⟩;have s3:=ak (o:=dB v2 dy) nv2;have s13:=s12.trans s3;refine ⟨v2,dy,ky,rfl,ac,.inl (s13 _ _ hy),λ lw nlw=>?_⟩;have s4:=ak (o:=.lst (ky.map (·.2))) nlw;have s14:=s13.trans s4;have hlw:upd (upd H2 v2 (dB v2 dy)) lw (.lst (ky.map (·.2))) lw=some (.lst (ky.map (·.2))):=ac;have hlp4:=(s3.trans s4) _ _ hlp
  have rp:RowAt (PlIs a) (upd (upd H2 v2 (dB v2 dy)) lw (.lst (ky.map (·.2)))) tp (ks.map λ n=>(n,f n)):=by
   refine ⟨by rw [ltp,tw.len,eB],λ i t x e1 e2=>?_⟩;rw [eN] at e2;obtain ⟨n,en,rfl⟩:=fj.mp e2;have hi:i<kw.length:=by rw [tw.len];exact (eG.mp en).1
   have ek:kw[i]?=some kw[i]:=eI hi;obtain ⟨n',en',e3,_,r⟩:=tw.at_ nd ek;rw [en] at en'
   cases en';obtain ⟨q,rfl,hq⟩:=htp i t _ e1 ek;obtain ⟨qf,eqf,ff⟩:=FrIs.mono r s14;rw [e3,eqf] at hq;exact ⟨q,qf,rfl,(s3.trans s4) _ _ hq,ff⟩
  have rw':RowAt (WayIs a) (upd (upd H2 v2 (dB v2 dy)) lw (.lst (ky.map (·.2)))) (ky.map (·.2)) (ws.map g):=(ty.row ndw).mono λ v x z=>z.mono s14;generalize upd (upd H2 v2 (dB v2 dy)) lw (.lst (ky.map (·.2)))=H4 at s14 hlw hlp4 rp rw' ⊢;intro q dq m1 m2 m3;have sq:=same_two (C:=a.Net) m1 m2;exact ⟨q,dq,lp,lw,tp,_,_,_,rfl,ac,sq.seq (SqL.of hlp4),rp.mono (λ v x z=>z.mono sq),sq.seq (SqL.of hlw),rw'.mono (λ v x z=>z.mono sq),ok,λ H' hs' hn'=>⟨rfl,k q H' (s14.free m1) (s14.trans (same_new m1 m2 hs')) (let ⟨d1,d2,d3,g1,g2,g3,g4,g5⟩:=hn';⟨d1,d2,d3,g1,g2,g3,(s14.trans sq).free g4,(s14.trans sq).free g5⟩)⟩⟩
end
end G
namespace G
open PySem L2
section
noncomputable def bU (ns:List Int) (k:Nat):Int:=ns.getD k 0
noncomputable def spCell (K:W.Frag):Sp:=λ vs H Q _=>∃ (l:Addr) (ns:List Int) (k:Nat),vs=[.ref l,.int (k:Int)]/\SqL K H l (ns.map V.int)/\Q (.int (bU ns k)) H
theorem cb (T:TX K mg a):FnB P w K mg base CX0 "_law_cell_at" 1 ["_law_script","_law_k"] (spCell K):=by
 refine T.d_law_cell_at.ok sc_law_cell_at (λ vs H Q E h=>?_) (λ f cdv A outer s H vs Q E hr h=>?_)
 ·obtain ⟨l,ns,i,rfl,_⟩:=h;rfl
 ·obtain ⟨l,ns,i,rfl,hS,k⟩:=h
  refine ⟨_,(ad (aB (aq op_lt (pv 1) (az cB (by rfl) T.z_len f6 (aa (pv 0) af)) (aw _)) (ae (av (aK aE (pv 0) (pv 1) (λ _ _=>rfl)))) aj)
   (ae (av ai))),?_⟩
  try dsimp only [aL,Cx.nox,Cx.wish]
  refine ⟨_,rfl,_,rfl,_,_,rfl,.inl hS,_,_,rfl,rfl,_,rfl,?_⟩;rw [eB];refine ite2 (λ hlt=>?_) (λ hge=>?_)
  ·have hlt':(i:Int)<(ns.length:Int):=of_decide_eq_true hlt;have hl:i<ns.length:=by omega
   refine ⟨_,rfl,_,rfl,_,_,_,_,rfl,rfl,hS,atI_nat (v:=.int (ns[i])) ?_,?_⟩
   ·rw [eN,eI hl];rfl
   ·have e:bU ns i=ns[i]:=by unfold bU;rw [fH,eI hl];rfl
    rw [e] at k;exact k
  ·have hge':¬ (i:Int)<(ns.length:Int):=λ z=>hge (eK z);have e:bU ns i=0:=by unfold bU;rw [fH,List.getElem?_eq_none (by omega)];rfl
   rw [e] at k;exact k
noncomputable def spWhole:Sp:=λ vs H Q _=>∃ i:Int,vs=[.int i]/\Q (.bl true) H
theorem d7 (T:TX K mg a):FnB P w K mg base CX0 "_law_whole" 1 ["_law_found"] spWhole:=by
 refine T.d_law_whole.ok sc_law_whole (λ vs H Q E h=>?_) (λ f cdv A outer s H vs Q E hr h=>?_)
 ·obtain ⟨i,rfl,_⟩:=h;rfl
 ·obtain ⟨i,rfl,k⟩:=h;refine ⟨_,(ae (av (pe_and (az (c8 (c:=.type "int")) (by rfl) T.z_isinstance eE (aa (pv 0) (aa (d0 (v:=.ty "int") (by rfl) T.z_int PyProof.Rows.boot_int rfl) af))) (pe_one (pe_not (az (c8 (c:=.type "bool")) (by rfl) T.z_isinstance eE (aa (pv 0) (aa (d0 (v:=.ty "bool") (by rfl) T.z_bool PyProof.Rows.boot_bool rfl) af)))))))),?_⟩;try dsimp only [aL,Cx.nox,Cx.wish]
  refine ⟨_,rfl,_,_,_,_,rfl,(λ u h=>h),TyOf.int i,T.k_int_int,_,rfl,?_⟩;refine iteT ?_;refine ⟨_,rfl,_,_,_,_,rfl,(λ u h=>h),TyOf.int i,T.k_int_bool,_,rfl,?_⟩;exact k
end
end G
namespace G
open PySem L2
section
inductive IspPair (C:Addr) (vs:List V) (H:Hp) (Q:VK):Prop
 | mk (p:Addr) (x:Rat) (h1:vs=[.ref p]) (h2:FrAt C H p x) (h3:∀ t,H t=none->Q (.ref t) (upd H t (.tup [.int x.num,.int x.den]))):IspPair C vs H Q
noncomputable def spPair (C:Addr):Sp:=λ vs H Q _=>IspPair C vs H Q
theorem ok_law_pair (T:TX K mg a):FnB P w K mg base CX0 "_law_pair" 2 ["_law_found"] (spPair a.Fraction):=by
 refine T.d_law_pair.ok sc_law_pair (λ vs H Q E h=>?_) (λ f cdv A outer s H vs Q E hr h=>?_)
 ·obtain ⟨p,x,rfl,_⟩:=h;rfl
 ·obtain ⟨p,x,rfl,hp,k⟩:=h
  refine ⟨_,(ad (aB (PW.pt (pw_or (cV (bg (az (c8 (c:=.ref a.Fraction)) (by rfl) T.z_isinstance eE (aa (pv 0) (aa (aY (v:=.ref a.Fraction) (by rfl) T.mg_Fraction rfl) af))))) (pw_or (cV (bg (aN (d7 T) hr aC (aa (pe_top T.fr (pv 0)) af)))) (pw_or1 (cV (bg (aN (d7 T) hr aC (aa (pe_bot T.fr (pv 0)) af)))))))) (ae (av bz)) aj)
   (ad (aB (aq op_lt (pe_bot T.fr (pv 0)) ai (aw _)) (ae (av bz)) aj)
   (ae (av (b8 (aa (pe_top T.fr (pv 0)) (aa (pe_bot T.fr (pv 0)) af))))))),?_⟩
  try dsimp only [aL,Cx.nox,Cx.wish]
  refine ⟨_,rfl,_,_,_,_,rfl,(λ u h=>h),hp.ty T.fr,T.k_Fraction_Fraction,_,rfl,?_⟩;walk_at "rd"
  have xp:=den_pos x;refine aU (eD (show ¬ (x.den:Int)<1 by omega)) ?_;walk_at "rd"
  exact ⟨zL2,k⟩
end
end G
namespace G
open PySem L2
section
theorem bq (c:Int) {m:Int} (h:0<m):0<=c % m/\c % m<m:=⟨Int.emod_nonneg _ (by omega),Int.emod_lt_of_pos _ h⟩
noncomputable def let1 (i:Int):Str:=⟨#[97+(i % 26).toNat]⟩
noncomputable def nmK (c k:Int):Str:=if c % 2=0 then let1 (c / 2)++let1 k else let1 k++let1 (c / 2)
theorem let_at (i:Int):atI ("abcdefghijklmnopqrstuvwxyz":Str).cps.toList (i % 26)=some (97+(i % 26).toNat):=by
 obtain ⟨h0,h1⟩:=bq i (show (0:Int)<26 by decide);obtain ⟨n,hn⟩:∃ n:Nat,i % 26=n:=⟨(i % 26).toNat,by omega⟩;have key:∀ n:Nat,n<26->("abcdefghijklmnopqrstuvwxyz":Str).cps.toList[n]?=some (97+n):=by decide
 rw [hn,Int.toNat_natCast];exact atI_nat (key n (by omega))
theorem nmK_cps (c k:Int):(nmK c k).cps.toList=if c % 2=0 then [97+(c / 2 % 26).toNat,97+(k % 26).toNat] else [97+(k % 26).toNat,97+(c / 2 % 26).toNat]:=by
 unfold nmK
 split
 ·rw [bv];rfl
 ·rw [bv];rfl
theorem dI (c k:Int):bG (nmK c k)=true:=by
 have key:∀ n:Nat,n<26->inB "abcdefghijklmnopqrstuvwxyz" (97+n)=true:=by decide
 obtain ⟨h0,h1⟩:=bq k (show (0:Int)<26 by decide);obtain ⟨g0,g1⟩:=bq (c / 2) (show (0:Int)<26 by decide);have e:=nmK_cps c k
 have two:∀ (z:Str) (i j:Nat),i<26->j<26->z.cps.toList=[97+i,97+j]->bG z=true:=λ z i j hi hj hz=>by
  have zl:z.length=2:=by show z.cps.size=_;rw [<- fe,hz];rfl
  unfold bG madeB;rw [zl,hz,List.all_cons,List.all_cons,key i hi,key j hj];rfl
 split at e
 ·exact two _ _ _ (by omega) (by omega) e
 ·exact two _ _ _ (by omega) (by omega) e
theorem nmK_inj {c k k':Int} (h:nmK c k=nmK c k'):k % 26=k' % 26:=by
 have e:=fv (λ z:Str=>z.cps.toList) h;have e:(nmK c k).cps.toList=(nmK c k').cps.toList:=e;rw [nmK_cps,nmK_cps] at e;obtain ⟨h0,h1⟩:=bq k (show (0:Int)<26 by decide);obtain ⟨g0,g1⟩:=bq k' (show (0:Int)<26 by decide)
 split at e
 ·have e2:=(List.cons.inj (List.cons.inj e).2).1;omega
 ·have e2:=(List.cons.inj e).1;omega
theorem row_place (n:Str) (x:Rat):Str.join ⟨#[32]⟩ ((Rw.place n x).hd::(Rw.place n x).cs.map Wd.txt) = "place " ++ n ++ " " ++ aH x:=by
 refine str_of ?_;show (Str.join ⟨#[32]⟩ ["place",n,aH x]).cps.toList=_;rw [cz,cz,bv,bv,bv];show _=("place ":Str).cps.toList++n.cps.toList++(" ":Str).cps.toList++(aH x).cps.toList;rw [show ("place ":Str).cps.toList=("place":Str).cps.toList++[32] by decide,show (" ":Str).cps.toList=[32] by decide];simp only [List.append_assoc,List.singleton_append];rfl
theorem row_drop (n:Str):Str.join ⟨#[32]⟩ ((Rw.drop n).hd::(Rw.drop n).cs.map Wd.txt) = "drop " ++ n:=by
 refine str_of ?_;show (Str.join ⟨#[32]⟩ ["drop",n]).cps.toList=_;rw [cz,bv];show _=("drop ":Str).cps.toList++n.cps.toList;rw [show ("drop ":Str).cps.toList=("drop":Str).cps.toList++[32] by decide];simp only [List.append_assoc,List.singleton_append];rfl
theorem shown0:aH 0 = "0":=by decide +kernel
theorem row_way (n s g:Str) (x:Rat):Str.join ⟨#[32]⟩ ((Rw.way n s g x).hd::(Rw.way n s g x).cs.map Wd.txt) = "way " ++ n ++ " " ++ s ++ " " ++ g ++ " " ++ aH x ++ " - 0":=by
 refine str_of ?_;show (Str.join ⟨#[32]⟩ ["way",n,s,g,aH x,"-",aH 0]).cps.toList=_;rw [shown0,cz,cz,cz,cz,cz,cz,bv,bv,bv,bv,bv,bv,bv,bv];show _=("way ":Str).cps.toList++n.cps.toList++(" ":Str).cps.toList++s.cps.toList++(" ":Str).cps.toList++g.cps.toList++(" ":Str).cps.toList++(aH x).cps.toList++(" - 0":Str).cps.toList;rw [show ("way ":Str).cps.toList=("way":Str).cps.toList++[32] by decide,show (" ":Str).cps.toList=[32] by decide,show (" - 0":Str).cps.toList=[32]++(("-":Str).cps.toList++([32]++("0":Str).cps.toList)) by decide];simp only [List.append_assoc,List.singleton_append];rfl
theorem cu (i:Int):aH (i:Rat)=txt i:=by
 unfold aH;rw [if_pos (by rw [Rat.den_intCast];rfl),Rat.num_intCast];rfl
theorem cq {i:Int} (h:i.natAbs<10 ^ 9):smallR (i:Rat):=by
 unfold smallR;rw [Rat.den_intCast,Rat.num_intCast];exact ⟨h,by decide⟩
theorem txt_len {i:Int} (h:i.natAbs<10 ^ 9):(txt i).length<=900:=by
 rw [<- cu];exact shown_len (cq h).1 (cq h).2
inductive IspNm (vs:List V) (H:Hp) (Q:VK):Prop
 | mk (k c:Int) (h1:vs=[.int k,.int c]) (h2:Q (.str (nmK c k)) H):IspNm vs H Q
noncomputable def spNm:Sp:=λ vs H Q _=>IspNm vs H Q
theorem br (T:TX K mg a):FnB P w K mg base CX0 "_law_name" 1 ["_law_k","_law_cell"] spNm:=by
 refine T.d_law_name.ok sc_law_name (λ vs H Q E h=>?_) (λ f cdv A outer s H vs Q E hr h=>?_)
 ·obtain ⟨k,c,rfl,_⟩:=h;rfl
 ·obtain ⟨i,c,rfl,k⟩:=h
  refine ⟨_,(ad (aD (i:=2) sc_law_name.nd rfl (Or.inl rfl) au)
   (ad (aB (aq a8 (aA bo (pv 1) ai) ai (aw _)) (ae (av (aA ax (aK ix_str (pv 2) (aA bo (aA d6 (pv 1) ai) ai) (λ _ _=>rfl)) (aK ix_str (pv 2) (aA bo (pv 0) ai) (λ _ _=>rfl))))) aj)
   (ae (av (aA ax (aK ix_str (pv 2) (aA bo (pv 0) ai) (λ _ _=>rfl)) (aK ix_str (pv 2) (aA bo (aA d6 (pv 1) ai) ai) (λ _ _=>rfl))))))),?_⟩
  try dsimp only [aL,Cx.nox,Cx.wish]
  unfold nmK at k;refine ⟨_,rfl,_,_,rfl,rfl,zI2,rfl,_,rfl,ifV (λ e=>?_) (λ e=>?_)⟩
  ·rw [if_pos e] at k;refine ⟨_,rfl,_,rfl,_,_,rfl,rfl,⟨by decide,by decide⟩,_,_,rfl,rfl,zI26,_,_,_,rfl,rfl,by rw [eF];decide,let_at (c / 2),_,rfl,_,rfl,_,_,rfl,rfl,zI26,_,_,_,rfl,rfl,by rw [eF];decide,let_at i,_,_,rfl,rfl,by rw [eF];show 1+1<=16777216;decide,k⟩
  ·rw [if_neg e] at k;refine ⟨_,rfl,_,rfl,_,_,rfl,rfl,zI26,_,_,_,rfl,rfl,by rw [eF];decide,let_at i,_,rfl,_,rfl,_,_,rfl,rfl,⟨by decide,by decide⟩,_,_,rfl,rfl,zI26,_,_,_,rfl,rfl,by rw [eF];decide,let_at (c / 2),_,_,rfl,rfl,by rw [eF];show 1+1<=16777216;decide,k⟩
noncomputable def RfAt (a:Ad) (H:Hp) (x:Addr):Nat × Str->Prop
 | (0,_)=>XAt H x a.NoRow
 | (1,n)=>XAtD H x a.NoPlace [("place",.str n)]
 | _=>XAt H x a.TooMany
theorem RfAt.mono {H H':Hp} {x:Addr} {c:Nat × Str} (h:RfAt a H x c) (s:Same H H'):RfAt a H' x c:=by
 match c,h with
 | (0,_),h=>exact XAt.mono h s
 | (1,_),h=>exact XAtD.mono h s
 | (c+2,_),h=>exact XAt.mono h s
noncomputable def tupR:Nat × Str->List V
 | (0,_)=>[.str "row"]
 | (1,n)=>[.str "place",.str n]
 | _=>[.str "many"]
inductive IspRfl (a:Ad) (vs:List V) (H:Hp) (Q:VK):Prop
 | mk (x:Addr) (c:Nat × Str) (h1:vs=[.ref x]) (h2:RfAt a H x c) (h3:∀ q H',Same H H'->H' q=some (.tup (tupR c))->Q (.ref q) H'):IspRfl a vs H Q
noncomputable def spRfl (a:Ad):Sp:=λ vs H Q _=>IspRfl a vs H Q
theorem ok_law_refusal (T:TX K mg a):FnB P w K mg base CX0 "_law_refusal" 1 ["_law_e"] (spRfl a):=by
 refine T.d_law_refusal.ok sc_law_refusal (λ vs H Q E h=>?_) (λ f cdv A outer s H vs Q E hr h=>?_)
 ·obtain ⟨x,c,rfl,_⟩:=h;rfl
 ·obtain ⟨x,c,rfl,hx,k⟩:=h
  refine ⟨_,(ad (aD (i:=1) sc_law_refusal.nd rfl (Or.inl rfl) (pe_lst af))
   (ad (aB (bg (cX (az (bC (c:=.ref a.NoRow)) (by rfl) T.z_isinstance eE (aa (pv 0) (aa (aY (v:=.ref a.NoRow) (by rfl) T.mg_NoRow rfl) af))) (az (bR (c:=.ref a.NoRow)) (by rfl) T.z_isinstance eE (aa (pv 0) (aa (aY (v:=.ref a.NoRow) (by rfl) T.mg_NoRow rfl) af))))) (ae (bf (pe_bm PySem.F.plainAttrs_list PySem.F.slot_list_append PySem.F.type_list_append dc (pv 1) (aa au af)))) aj)
   (ad (aB (bg (cX (az (bC (c:=.ref a.NoPlace)) (by rfl) T.z_isinstance eE (aa (pv 0) (aa (aY (v:=.ref a.NoPlace) (by rfl) T.mg_NoPlace rfl) af))) (az (bR (c:=.ref a.NoPlace)) (by rfl) T.z_isinstance eE (aa (pv 0) (aa (aY (v:=.ref a.NoPlace) (by rfl) T.mg_NoPlace rfl) af))))) (ae (aD (i:=1) sc_law_refusal.nd rfl (Or.inl rfl) (aA op_cat (pv 1) (pe_lst (aa au (aa (pe_xfld (pv 0) rfl) af)))))) aj)
   (ad (aB (bg (cX (az (bC (c:=.ref a.NoWay)) (by rfl) T.z_isinstance eE (aa (pv 0) (aa (aY (v:=.ref a.NoWay) (by rfl) T.mg_NoWay rfl) af))) (az (bR (c:=.ref a.NoWay)) (by rfl) T.z_isinstance eE (aa (pv 0) (aa (aY (v:=.ref a.NoWay) (by rfl) T.mg_NoWay rfl) af))))) (ae (aD (i:=1) sc_law_refusal.nd rfl (Or.inl rfl) (aA op_cat (pv 1) (pe_lst (aa au (aa (pe_xfld (pv 0) rfl) af)))))) aj)
   (ad (aB (bg (cX (az (bC (c:=.ref a.TooMany)) (by rfl) T.z_isinstance eE (aa (pv 0) (aa (aY (v:=.ref a.TooMany) (by rfl) T.mg_TooMany rfl) af))) (az (bR (c:=.ref a.TooMany)) (by rfl) T.z_isinstance eE (aa (pv 0) (aa (aY (v:=.ref a.TooMany) (by rfl) T.mg_TooMany rfl) af))))) (ae (bf (pe_bm PySem.F.plainAttrs_list PySem.F.slot_list_append PySem.F.type_list_append dc (pv 1) (aa au af)))) aj)
   (ad (aB (PW.pt (pw_or (bg (cX (az (bC (c:=.ref a.NoText)) (by rfl) T.z_isinstance eE (aa (pv 0) (aa (aY (v:=.ref a.NoText) (by rfl) T.mg_NoText rfl) af))) (az (bR (c:=.ref a.NoText)) (by rfl) T.z_isinstance eE (aa (pv 0) (aa (aY (v:=.ref a.NoText) (by rfl) T.mg_NoText rfl) af))))) (pw_or (bg (cX (az (bC (c:=.ref a.NoNumber)) (by rfl) T.z_isinstance eE (aa (pv 0) (aa (aY (v:=.ref a.NoNumber) (by rfl) T.mg_NoNumber rfl) af))) (az (bR (c:=.ref a.NoNumber)) (by rfl) T.z_isinstance eE (aa (pv 0) (aa (aY (v:=.ref a.NoNumber) (by rfl) T.mg_NoNumber rfl) af))))) (pw_or (bg (cX (az (bC (c:=.ref a.Twice)) (by rfl) T.z_isinstance eE (aa (pv 0) (aa (aY (v:=.ref a.Twice) (by rfl) T.mg_Twice rfl) af))) (az (bR (c:=.ref a.Twice)) (by rfl) T.z_isinstance eE (aa (pv 0) (aa (aY (v:=.ref a.Twice) (by rfl) T.mg_Twice rfl) af))))) (pw_or1 (cV (bg (cX (az (bC (c:=.type "ValueError")) (by rfl) T.z_isinstance eE (aa (pv 0) (aa (d0 (v:=.ty "ValueError") (by rfl) T.z_ValueError cM rfl) af))) (az (bR (c:=.type "ValueError")) (by rfl) T.z_isinstance eE (aa (pv 0) (aa (d0 (v:=.ty "ValueError") (by rfl) T.z_ValueError cM rfl) af))))))))))) (ae (bf (pe_bm PySem.F.plainAttrs_list PySem.F.slot_list_append PySem.F.type_list_append dc (pv 1) (aa au af)))) aj)
   (ae (av (aQ call_tuple_of (by rfl) T.z_tuple PyProof.Rows.boot_tuple (aa (pv 1) af)))))))))),?_⟩
  try dsimp only [aL,Cx.nox,Cx.wish]
  refine ⟨zL0,λ l nl=>?_⟩;have s1:=ak (o:=.lst []) nl;have h1:upd H l (.lst []) l=some (.lst []):=ac;have hx:=hx.mono s1;generalize upd H l (.lst [])=H1 at s1 h1 hx ⊢
  match c,hx with
  | (0,n),hx=>
   have hx:XAt H1 x a.NoRow:=hx;have nlx:x≠l:=λ z=>by rw [z] at hx;exact absurd (h1.symm.trans hx) (by intro z;cases z)
   refine .inr ⟨_,rfl,x,a.NoRow,.ref a.NoRow,true,rfl,(λ u h=>h),hx,T.exa_NoRow,T.k_NoRow_NoRow,_,rfl,iteT ?_⟩;refine ⟨_,rfl,.inl ⟨rfl,_,SqL.of h1⟩,l,_,_,rfl,rfl,h1,by decide,?_⟩;have s2:Same H (upd H1 l (.lst ([]++[.str "row"]))):=b4 nl s1;have h2:upd H1 l (.lst ([]++[.str "row"])) l=some (.lst [.str "row"]):=ac;have hx2:XAt (upd H1 l (.lst ([]++[.str "row"]))) x a.NoRow:=by unfold XAt;rw [ag nlx];exact hx
   generalize upd H1 l (.lst ([]++[.str "row"]))=H2 at s2 h2 hx2 ⊢;refine .inr ⟨_,rfl,x,a.NoRow,.ref a.NoPlace,false,rfl,(λ u h=>h),hx2,T.exa_NoRow,T.k_NoRow_NoPlace,_,rfl,iteF ?_⟩;refine .inr ⟨_,rfl,x,a.NoRow,.ref a.NoWay,false,rfl,(λ u h=>h),hx2,T.exa_NoRow,T.k_NoRow_NoWay,_,rfl,iteF ?_⟩;refine .inr ⟨_,rfl,x,a.NoRow,.ref a.TooMany,false,rfl,(λ u h=>h),hx2,T.exa_NoRow,T.k_NoRow_TooMany,_,rfl,iteF ?_⟩;refine .inr ⟨_,rfl,x,a.NoRow,.ref a.NoText,false,rfl,(λ u h=>h),hx2,T.exa_NoRow,T.k_NoRow_NoText,_,rfl,iteF ?_⟩;refine .inr ⟨_,rfl,x,a.NoRow,.ref a.NoNumber,false,rfl,(λ u h=>h),hx2,T.exa_NoRow,T.k_NoRow_NoNumber,_,rfl,iteF ?_⟩;refine .inr ⟨_,rfl,x,a.NoRow,.ref a.Twice,false,rfl,(λ u h=>h),hx2,T.exa_NoRow,T.k_NoRow_Twice,_,rfl,iteF ?_⟩;refine .inr ⟨_,rfl,x,a.NoRow,.ty "ValueError",true,rfl,(λ u h=>h),hx2,T.exa_NoRow,T.k_NoRow_ValueError,_,rfl,iteF ?_⟩;exact ⟨_,rfl,l,_,rfl,.inl ⟨SqL.of h2,λ q nq=>k q _ (s2.trans (ak nq)) ac⟩⟩
  | (1,n),hx=>
   obtain ⟨dx,ho,hd⟩:=hx;refine .inl ⟨_,rfl,x,a.NoPlace,.ref a.NoRow,false,_,rfl,(λ u h=>h),⟨dx,ho,hd⟩,T.exa_NoPlace,T.k_NoPlace_NoRow,_,rfl,iteF ?_⟩;refine .inl ⟨_,rfl,x,a.NoPlace,.ref a.NoPlace,true,_,rfl,(λ u h=>h),⟨dx,ho,hd⟩,T.exa_NoPlace,T.k_NoPlace_NoPlace,_,rfl,iteT ?_⟩;refine ⟨_,rfl,_,rfl,x,a.NoPlace,dx,_,.str n,rfl,ho,hd,T.exa_NoPlace,T.hd_NoPlace,T.na_NoPlace_place,rfl,zL2,λ l2 nl2=>?_⟩;have s2:=ak (o:=.lst [.str "place",.str n]) nl2;have h12:=s2 _ _ h1;have ho2:=s2 _ _ ho;have hd2:=s2 _ _ hd;have h2:upd H1 l2 (.lst [.str "place",.str n]) l2=some (.lst [.str "place",.str n]):=ac;generalize upd H1 l2 (.lst [.str "place",.str n])=H2 at s2 h12 ho2 hd2 h2 ⊢;refine ⟨l,l2,_,_,rfl,rfl,h12,h2,zL2,λ l3 nl3=>?_⟩;have s3:=ak (o:=.lst ([]++[.str "place",.str n])) nl3;have ho3:=s3 _ _ ho2;have hd3:=s3 _ _ hd2;have h3:upd H2 l3 (.lst ([]++[.str "place",.str n])) l3=some (.lst [.str "place",.str n]):=ac;generalize upd H2 l3 (.lst ([]++[.str "place",.str n]))=H3 at s3 ho3 hd3 h3 ⊢;have s13:=s1.trans (s2.trans s3);refine .inl ⟨_,rfl,x,a.NoPlace,.ref a.NoWay,false,_,rfl,(λ u h=>h),⟨dx,ho3,hd3⟩,T.exa_NoPlace,T.k_NoPlace_NoWay,_,rfl,iteF ?_⟩;refine .inl ⟨_,rfl,x,a.NoPlace,.ref a.TooMany,false,_,rfl,(λ u h=>h),⟨dx,ho3,hd3⟩,T.exa_NoPlace,T.k_NoPlace_TooMany,_,rfl,iteF ?_⟩;refine .inl ⟨_,rfl,x,a.NoPlace,.ref a.NoText,false,_,rfl,(λ u h=>h),⟨dx,ho3,hd3⟩,T.exa_NoPlace,T.k_NoPlace_NoText,_,rfl,iteF ?_⟩;refine .inl ⟨_,rfl,x,a.NoPlace,.ref a.NoNumber,false,_,rfl,(λ u h=>h),⟨dx,ho3,hd3⟩,T.exa_NoPlace,T.k_NoPlace_NoNumber,_,rfl,iteF ?_⟩;refine .inl ⟨_,rfl,x,a.NoPlace,.ref a.Twice,false,_,rfl,(λ u h=>h),⟨dx,ho3,hd3⟩,T.exa_NoPlace,T.k_NoPlace_Twice,_,rfl,iteF ?_⟩;refine .inl ⟨_,rfl,x,a.NoPlace,.ty "ValueError",true,_,rfl,(λ u h=>h),⟨dx,ho3,hd3⟩,T.exa_NoPlace,T.k_NoPlace_ValueError,_,rfl,iteF ?_⟩;exact ⟨_,rfl,l3,_,rfl,.inl ⟨SqL.of h3,λ q nq=>k q _ (s13.trans (ak nq)) ac⟩⟩
  | (c+2,n),hx=>
   have hx:XAt H1 x a.TooMany:=hx;have nlx:x≠l:=λ z=>by rw [z] at hx;exact absurd (h1.symm.trans hx) (by intro z;cases z)
   refine .inr ⟨_,rfl,x,a.TooMany,.ref a.NoRow,false,rfl,(λ u h=>h),hx,T.exa_TooMany,T.k_TooMany_NoRow,_,rfl,iteF ?_⟩;refine .inr ⟨_,rfl,x,a.TooMany,.ref a.NoPlace,false,rfl,(λ u h=>h),hx,T.exa_TooMany,T.k_TooMany_NoPlace,_,rfl,iteF ?_⟩;refine .inr ⟨_,rfl,x,a.TooMany,.ref a.NoWay,false,rfl,(λ u h=>h),hx,T.exa_TooMany,T.k_TooMany_NoWay,_,rfl,iteF ?_⟩;refine .inr ⟨_,rfl,x,a.TooMany,.ref a.TooMany,true,rfl,(λ u h=>h),hx,T.exa_TooMany,T.k_TooMany_TooMany,_,rfl,iteT ?_⟩;refine ⟨_,rfl,.inl ⟨rfl,_,SqL.of h1⟩,l,_,_,rfl,rfl,h1,by decide,?_⟩;have s2:Same H (upd H1 l (.lst ([]++[.str "many"]))):=b4 nl s1;have h2:upd H1 l (.lst ([]++[.str "many"])) l=some (.lst [.str "many"]):=ac;have hx2:XAt (upd H1 l (.lst ([]++[.str "many"]))) x a.TooMany:=by unfold XAt;rw [ag nlx];exact hx
   generalize upd H1 l (.lst ([]++[.str "many"]))=H2 at s2 h2 hx2 ⊢;refine .inr ⟨_,rfl,x,a.TooMany,.ref a.NoText,false,rfl,(λ u h=>h),hx2,T.exa_TooMany,T.k_TooMany_NoText,_,rfl,iteF ?_⟩;refine .inr ⟨_,rfl,x,a.TooMany,.ref a.NoNumber,false,rfl,(λ u h=>h),hx2,T.exa_TooMany,T.k_TooMany_NoNumber,_,rfl,iteF ?_⟩;refine .inr ⟨_,rfl,x,a.TooMany,.ref a.Twice,false,rfl,(λ u h=>h),hx2,T.exa_TooMany,T.k_TooMany_Twice,_,rfl,iteF ?_⟩;refine .inr ⟨_,rfl,x,a.TooMany,.ty "ValueError",true,rfl,(λ u h=>h),hx2,T.exa_TooMany,T.k_TooMany_ValueError,_,rfl,iteF ?_⟩;exact ⟨_,rfl,l,_,rfl,.inl ⟨SqL.of h2,λ q nq=>k q _ (s2.trans (ak nq)) ac⟩⟩
inductive IspSaid (a:Ad) (vs:List V) (H:Hp) (Q:VK):Prop
 | mk (p dw dy da:Addr) (ks:List Str) (f:Str->Rat) (ws:List Str) (g:Str->WD) (r:Rw) (h1:vs=[.ref p,.str (Str.join ⟨#[32]⟩ (r.hd::r.cs.map Wd.txt))]) (h2:DeskAt a H p dw dy da ks f ws g) (h3:r.ok) (h4:dropOk ws r) (h5:ks.length<=100) (h6:ws.length<=100) (h7:(cO ks ws r=none->∀ H',Kp2 dw dy H H'->DeskAt a H' p dw dy da (ksN ks r) (fN f r) (wsN ws r) (gN g r)->Q (.str "ok") H')) (h8:(∀ x,cO ks ws r=some x->∀ q H',Same H H'->H' q=some (.tup (tupR x))->Q (.ref q) H')):IspSaid a vs H Q
noncomputable def spSaid (a:Ad):Sp:=λ vs H Q _=>IspSaid a vs H Q
theorem due_le {ks ws:List Str} {r:Rw} {x:Nat × Str} (h:cO ks ws r=some x):x.1<=2:=by
 unfold cO at h
 split at h
 ·cases h;show 0<=2;decide
 ·split at h
  ·cases h;show 1<=2;decide
  ·split at h
   ·cases h;show 2<=2;decide
   ·cases h
theorem cY (T:TX K mg a):FnB P w K mg base CX0 "_law_said" 10 ["_law_desk","_law_row"] (spSaid a):=by
 refine T.d_law_said.ok sc_law_said (λ vs H Q E h=>?_) (λ f cdv A outer s H vs Q E hr h=>?_)
 ·obtain ⟨_,_,_,_,_,_,_,_,_,rfl,_⟩:=h;rfl
 ·obtain ⟨p,dw,dy,da,ks,f,ws,g,r,rfl,D,ok,dok,l1,l2,k,kx⟩:=h
  refine ⟨_,(ad (aD (i:=2) sc_law_said.nd rfl (Or.inl rfl) bz)
   (ad (aD (i:=3) sc_law_said.nd rfl (Or.inl rfl) bz)
   (aM (ps_try (pssx_one (psx_set (i:=3) sc_law_said.nd rfl (Or.inl rfl) (px_mtD (pv 0) hr (aa (pv 1) af)))) (ph_as (i:=4) (by rfl) T.mg_GainError ⟨T.ca1_GainError,T.ca2_GainError,T.ca3_GainError⟩ sc_law_said.nd rfl rfl (λ x=>(ae (aD (i:=2) sc_law_said.nd rfl (Or.inl rfl) (pv 4)))) ph_never))
   (ad (aB (aq op_notN (pv 2) bz (aw _)) (ae (av (aN (ok_law_refusal T) hr aC (aa (pv 2) af)))) aj)
   (ad (aB (bg (az (c8 (c:=.type "str")) (by rfl) T.z_isinstance eE (aa (pv 3) (aa (d0 (v:=.ty "str") (by rfl) T.z_str fE rfl) af)))) (ae (av (pv 3))) aj)
   (ae (av bz))))))),?_⟩
  try dsimp only [aL,Cx.nox,Cx.wish]
  generalize hk9:tCut _ _=k9
  revert k9
  refine keepG λ k9 hk9=>?_;obtain ⟨dx,hp⟩:=D.ob;have nos:=c6 dw dy da (m:="say") (by decide +kernel);generalize hz:Str.join ⟨#[32]⟩ (r.hd::r.cs.map Wd.txt)=z;subst hk9;refine cf (λ σ' H'=>(σ'=[some (.ref p),some (.str z),some .non,some (.str "ok"),none]/\cO ks ws r=none/\Kp2 dw dy H H'/\DeskAt a H' p dw dy da (ksN ks r) (fN f r) (wsN ws r) (gN g r))∨(∃ x xa,σ'=[some (.ref p),some (.str z),some (.ref xa),some .non,none]/\cO ks ws r=some x/\Same H H'/\RfAt a H' xa x)) ?_ ?_
  ·refine ⟨_,rfl,p,a.Desk,dx,_,9,["self","row"],spSay a,rfl,hp,nos,T.cl_Desk,by decide,cZ T,_,rfl,p,dw,dy,da,ks,f,ws,g,r,by rw [<- hz];rfl,D,ok,dok,l1,l2,λ e H' kp D'=>.inl ⟨rfl,e,kp,D'⟩,λ x e=>?_⟩;have lx:=due_le e;obtain ⟨xc,xn⟩:=x;refine ⟨λ e0 H' s'=>?_,λ e0 H' dx' s' hx'=>?_,λ e0 H' s'=>?_⟩
   ·obtain rfl:xc=0:=e0;refine ⟨_,_,rfl,T.su_NoRow_GainError,iteT λ x' nx=>?_⟩;exact ⟨_,rfl,.inr ⟨_,x',rfl,e,s'.trans (ak nx),ac⟩⟩
   ·obtain rfl:xc=1:=e0;refine ⟨_,_,rfl,T.su_NoPlace_GainError,iteT λ x' nx=>?_⟩;exact ⟨_,rfl,.inr ⟨_,x',rfl,e,s'.trans (ak nx),dx',ac,ak nx _ _ hx'⟩⟩
   ·obtain rfl:xc=2:=e0;refine ⟨_,_,rfl,T.su_TooMany_GainError,iteT λ x' nx=>?_⟩;exact ⟨_,rfl,.inr ⟨_,x',rfl,e,s'.trans (ak nx),ac⟩⟩
  rintro zU hzU σ' H1 hM;have hM:=hM;subst hzU;rcases hM with ⟨rfl,e,kp,D1⟩ | ⟨x,xa,rfl,e,s1,hx⟩
  ·refine ⟨_,rfl,rfl,_,rfl,iteNS rfl ?_⟩;refine ⟨_,rfl,_,_,_,_,rfl,(λ u h=>h),TyOf.str _,T.k_str_str,_,rfl,iteT ?_⟩;exact ⟨_,rfl,k e H1 kp D1⟩
  ·refine ⟨_,rfl,rfl,_,rfl,bY rfl ?_⟩;exact ⟨_,rfl,xa,x,rfl,hx,λ q H2 s2 hq=>kx x e q H2 (s1.trans s2) hq⟩
noncomputable def InIs (_:Hp) (v:V) (i:Int):Prop:=v=.int i
structure Apart (dw dy da lw lg:Addr):Prop where
 a1:lw≠dw
 a2:lw≠dy
 a3:lw≠da
 b1:lg≠dw
 b2:lg≠dy
 b3:lg≠da
 c:lw≠lg
structure LS (a:Ad) (H:Hp) (p dw dy da lw lg:Addr) (ks:List Str) (fi:Str->Int) (ws:List Str) (gi:Str->Int) (gg:Str->WD):Prop where
 D:DeskAt a H p dw dy da ks (λ n=>((fi n:Int):Rat)) ws gg
 hl:∃ kvs,H lw=some (.dK kvs)/\Tab InIs H kvs ks fi
 hg:∃ kvs,H lg=some (.dK kvs)/\Tab InIs H kvs ws gi
 ap:Apart dw dy da lw lg
 gk:∀ n∈ws,(gg n).nm=n/\(gg n).kd=.gro/\(gg n).x=((gi n:Int):Rat)/\(gg n).st∈ks/\(gg n).go∈ks
 gs:∀ n∈ws,(gi n).natAbs<10 ^ 9
 nk:ks.Nodup
 nw:ws.Nodup
 lk:ks.length<=12
 lv:ws.length<=24
theorem map_self {ws:List Str} {g:Str->Str} (h:∀ n∈ws,g n=n):ws.map g=ws:=(List.map_congr_left h).trans (List.map_id _)
theorem LS.net {H:Hp} {p dw dy da lw lg:Addr} {ks:List Str} {fi:Str->Int} {ws:List Str} {gi:Str->Int} {gg:Str->WD} (S:LS a H p dw dy da lw lg ks fi ws gi gg):NetOk (ks.map λ n=>(n,((fi n:Int):Rat))) (ws.map gg):=by
 have e1:(ks.map λ n=>(n,((fi n:Int):Rat))).map (·.1)=ks:=by rw [ft];exact map_self λ _ _=>rfl
 refine ⟨by rw [e1];exact S.nk,by rw [eB];exact S.lk,?_,by rw [eB];exact S.lv,λ d hd=>?_⟩
 ·rw [ft]
  have:ws.map ((·.nm) ∘ gg)=ws:=map_self λ n hn=>(S.gk n hn).1
  rw [this];exact S.nw
 ·obtain ⟨n,hn,rfl⟩:=eX.mp hd;rw [e1];exact (S.gk n hn).2.2.2
theorem eqVs_self:∀ ks:List Str,bJ (ks.map V.str) (ks.map V.str)=true
 | []=>rfl
 | k::ks=>by
  show (eqV (.str k) (.str k) && bJ (ks.map V.str) (ks.map V.str))=true;rw [eqVs_self ks,cc rfl];rfl
theorem cA (ks:List Str):(ks.map V.str).all bu=true:=by rw [List.all_map,fL];exact λ _ _=>rfl
theorem NetNew.but {H H1 H2:Hp} {q d:Addr} {ps:List (Str × Rat)} {ds:List WD} {o:HO} {kvs:List (Key × V)} (h:NetNew a H H1 q ps ds) (hd:H d=some o) (hd1:H1 d=some (.dK kvs)) (k:∀ b ob,H1 b=some ob->b≠d->H2 b=some ob):NetAt a H2 q ps ds:=by
 obtain ⟨dx,dw,dy,h1,⟨kw,h2,h3,h4⟩,⟨ky,h5,h6,h7⟩,n1,n2⟩:=h;have ni:∀ {b:Addr} {C dx:Addr} {fs:List (Str × V)},H1 b=some (.ins C dx fs)->b≠d:=λ e z=>by rw [z,hd1] at e;cases e
 refine ⟨dx,dw,dy,k _ _ h1 (ni h1),⟨kw,k _ _ h2 (λ z=>by rw [z,hd] at n1;cases n1),h3,h4.mono λ v x ⟨q',e,dq,f⟩=>⟨q',e,dq,k _ _ f (ni f)⟩⟩,⟨ky,k _ _ h5 (λ z=>by rw [z,hd] at n2;cases n2),h6,h7.mono λ v x z=>z.keep λ b C dx fs _ e=>k _ _ e (ni e)⟩⟩
inductive IspKnown (a:Ad) (vs:List V) (H:Hp) (Q:VK):Prop
 | mk (p dw dy da lw lg:Addr) (ks:List Str) (fi:Str->Int) (ws:List Str) (gi:Str->Int) (gg:Str->WD) (h1:vs=[.ref p,.ref lw,.ref lg]) (h2:LS a H p dw dy da lw lg ks fi ws gi gg) (h3:∀ H',Same H H'->Q (.bl true) H'):IspKnown a vs H Q
noncomputable def spKnown (a:Ad):Sp:=λ vs H Q _=>IspKnown a vs H Q
theorem ok_law_known (T:TX K mg a):FnB P w K mg base CX0 "_law_known" 9 ["_law_desk","_law_wants","_law_gains"] (spKnown a):=by
 refine T.d_law_known.ok sc_law_known (λ vs H Q E h=>?_) (λ f cdv A outer s H vs Q E hr h=>?_)
 ·obtain ⟨_,_,_,_,_,_,_,_,_,_,_,rfl,_⟩:=h;rfl
 ·obtain ⟨p,dw,dy,da,lw,lg,ks,fi,ws,gi,gg,rfl,S,k⟩:=h
  refine ⟨_,(aM (aD (i:=3) sc_law_known.nd rfl (Or.inl rfl) (cE (CX:=CX0) (pv 0) hr aC))
   (aM (aB (PW.pt (pw_or (aq (op_neL hr.units0) (cE (CX:=CX0) (pv 3) hr aC) (aQ (ce hr.hd) (by rfl) T.z_list fT (aa (pv 1) af)) (aw _)) (pw_or1 (aq (op_neL hr.units0) (pe_compG (xs:=["_law_way"]) (rest:=[]) rfl (pi_list (cE (CX:=CX0) (pv 3) hr aC))
   (λ pins fp C' s' H'=>(bt (i:=0) (show (["_law_way"]:List Str).Nodup by decide +kernel) rfl (Or.inl rfl))) (λ pins fp C' s' H'=>pts_nil)
   (λ pins fp C' s' H'=>(pe_fldK (K:=K) rfl (pv 0) rfl))
   (Clos.none (by decide +kernel) (by decide +kernel)) (Reads.many (ys:=[]) (js:=[]) True.intro)) (aQ (ce hr.hd) (by rfl) T.z_list fT (aa (pv 2) af)) (aw _))))) (ae (av pe_bl)) aj)
   (aM (ps_thaw (cW fU rfl (pi_dict (pv 1)) (bt (i:=4) sc_law_known.nd rfl (Or.inl rfl)) (ae (aB (aq (op_neT hr.units0) (aN (ok_law_pair T) hr aC (aa (bT (CX:=CX0) (pv 3) hr aC (aa (pv 4) af)) af)) (b8 (aa (db (bd hr) (pv 1) (pv 4) (λ _ _=>rfl)) (aa ai af))) (aw _)) (ae (av pe_bl)) aj))))
   (ad (ps_thaw (cW fU rfl (pi_dict (pv 2)) (bt (i:=4) sc_law_known.nd rfl (Or.inl rfl)) (ae (aB (aq (op_neT hr.units0) (aN (ok_law_pair T) hr aC (aa (cE (CX:=CX0) (bT (CX:=CX0) (pv 3) hr aC (aa (pv 4) af)) hr aC) af)) (b8 (aa (db (bd hr) (pv 2) (pv 4) (λ _ _=>rfl)) (aa ai af))) (aw _)) (ae (av pe_bl)) aj))))
   (ae (av pe_bl)))))),?_⟩
  try dsimp only [aL,Cx.nox,Cx.wish]
  generalize hk9:tCut _ _=k9
  revert k9
  refine keepG λ k9 hk9=>?_;obtain ⟨dx,hp⟩:=S.D.ob;obtain ⟨kl,hl,tl⟩:=S.hl;obtain ⟨kg,hg,tg⟩:=S.hg;have gn:∀ n∈ws,(gg n).nm=n:=λ n hn=>(S.gk n hn).1;have non:=c6 dw dy da (m:="net") (by decide +kernel)
  have ek:kl.map (λ kv=>kV kv.1)=ks.map V.str:=by
   have:=fv (List.map kV) tl.keys
   rw [ft,ft] at this;exact this
  have eg:kg.map (λ kv=>kV kv.1)=ws.map V.str:=by
   have:=fv (List.map kV) tg.keys
   rw [ft,ft] at this;exact this
  generalize hps:(ks.map λ n=>(n,((fi n:Int):Rat)))=ps;generalize hds:ws.map gg=ds;have e1:ps.map (λ x=>V.str x.1)=ks.map V.str:=by rw [<- hps,ft];rfl
  have ndp:(ps.map (·.1)).Nodup:=by rw [<- hps];exact S.net.np
  have ndd:(ds.map (·.nm)).Nodup:=by rw [<- hds];exact S.net.nd
  have ld:ds.length<=24:=by rw [<- hds];exact S.net.ld
  subst hk9;refine cf (λ σ' H'=>∃ q,σ'=[some (.ref p),some (.ref lw),some (.ref lg),some (.ref q),none]/\Same H H'/\NetNew a H H' q ps ds) ?_ ?_
  ·exact ⟨_,rfl,p,a.Desk,dx,_,6,["self"],spDNet a,rfl,hp,non,T.cl_Desk,by decide,ok_Desk_net T,p,dw,dy,da,ks,_,ws,gg,rfl,S.D,S.nk,S.net,gn,λ q H1 nq s1 hn=>⟨q,rfl,s1,by rw [<- hps,<- hds];exact hn⟩⟩
  rintro zU hzU σ' H1 ⟨q,rfl,s1,hn⟩;have hn1:=hn.at_;have hl1:=s1 _ _ hl;have hg1:=s1 _ _ hg;subst hzU;refine cf (λ σ' H'=>σ'=[some (.ref p),some (.ref lw),some (.ref lg),some (.ref q),none]/\Same H1 H') ?_ ?_
  ·obtain ⟨dn,wn,yn,hq,hw,hy⟩:=id hn1;have no1:=fsN_no wn yn (m:="names") (by decide +kernel) (by decide +kernel);have no2:=fsN_no wn yn (m:="all_ways") (by decide +kernel) (by decide +kernel);refine ⟨_,rfl,q,a.Net,dn,_,1,["self"],spNNames a,rfl,hq,no1,T.cl_Net,by decide,ok_Net_names T,q,ps,ds,rfl,hn1,λ l1 m1=>?_⟩;rw [e1];obtain ⟨H2,zq,s2,h1⟩:=uG (o:=.lst (ks.map V.str)) m1;rw [zq];refine ⟨_,rfl,lw,kl,rfl,.inl (s2 _ _ hl1),λ l2 m2=>?_⟩;rw [ek];have s3:=ak (o:=.lst (ks.map V.str)) m2;have h2:upd H2 l2 (.lst (ks.map V.str)) l2=some (.lst (ks.map V.str)):=ac;have h13:=s3 _ _ h1;generalize upd H2 l2 (.lst (ks.map V.str))=H3 at s3 h2 h13 ⊢;refine ⟨l1,l2,_,_,rfl,rfl,SqL.of h13,SqL.of h2,cA ks,cA ks,_,rfl,aU (by rw [eqVs_self];rfl) ?_⟩;have s13:=s2.trans s3;have hn3:=hn1.mono s13;refine ⟨_,rfl,q,a.Net,dn,_,1,["self"],spNAll a,rfl,s13 _ _ hq,no2,T.cl_Net,by decide,ok_Net_all_ways T,q,ps,ds,rfl,hn3,λ la H4 ta nla s4 hla hra=>?_⟩;refine ⟨la,rfl,⟨_,SqL.of hla⟩,λ c nc=>?_⟩;refine compG_list (K:=K) (a:=la) (xs:=ta) (λ j H5=>j<=ds.length/\Same H4 H5/\H5 c=some (.lst ((ds.take j).map λ d=>V.str d.nm))) ⟨fP _,ak nc,ac⟩ (λ j H5 ⟨_,s5,_⟩=>SqL.of (s5 _ _ hla)) ?_ ?_
   ·rintro j y H5 hy ⟨_,s5,h5⟩;obtain ⟨e,ee,he⟩:=hra.get hy;have hj:j<ds.length:=(eG.mp ee).1;obtain ⟨p1,vh,vc,qx,rfl,W,_⟩:=he.mono s5;obtain ⟨dx1,fs1,ho1,h51,_⟩:=id W.ob;have c1:=cls_any T e.kd;refine g1 ⟨⟨[_],rfl,rfl⟩,yes ?_⟩;refine ⟨_,rfl,p1,_,dx1,fs1,_,rfl,ho1,c1.cl,c1.n1,h51.nm,?_⟩;refine ⟨_,h5,a9 (by rw [eB,fQ];omega),nextP (by rw [hra.1];exact hj) ⟨hj,b4 nc s5,?_⟩⟩;rw [ac,List.take_add_one,ee,fY,fo];rfl
   ·rintro H5 ⟨_,s5,h5⟩;rw [hra.1,List.take_length] at h5
    have ed:ds.map (λ d=>V.str d.nm)=ws.map V.str:=by
     rw [<- hds,ft];exact List.map_congr_left λ n hn=>fv V.str (gn n hn)
    rw [ed] at h5;have s15:=s13.trans (s4.trans s5);refine ⟨_,rfl,lg,kg,rfl,.inl (s15 _ _ hg1),λ l3 m3=>?_⟩;rw [eg];have s6:=ak (o:=.lst (ws.map V.str)) m3;have h3:upd H5 l3 (.lst (ws.map V.str)) l3=some (.lst (ws.map V.str)):=ac;have h56:=s6 _ _ h5;generalize upd H5 l3 (.lst (ws.map V.str))=H6 at s6 h3 h56 ⊢;exact ⟨c,l3,_,_,rfl,rfl,SqL.of h56,SqL.of h3,cA ws,cA ws,_,rfl,aU (by rw [eqVs_self];rfl) ⟨rfl,s15.trans s6⟩⟩
  rintro zU hzU σ' H2 ⟨rfl,s2⟩;have hl2:=s2 _ _ hl1
  have hn2:NetNew a H H2 q ps ds:=by
   obtain ⟨d1,d2,d3,g1,g2,g3,g4,g5⟩:=hn;exact ⟨d1,d2,d3,s2 _ _ g1,g2.mono s2,g3.mono s2,g4,g5⟩
  subst hzU;refine cf (λ σ' H'=>∃ z4,σ'=[some (.ref p),some (.ref lw),some (.ref lg),some (.ref q),z4]/\Same H2 H') ?_ ?_
  ·refine ⟨lw,.dK kl,hl2,(by intro o z e;cases e),_,rfl,lw,kl,rfl,hl2,λ o=>?_⟩;refine for_dict (a:=lw) (o:=o) (kvs:=kl) (λ j σ H3=>∃ z4,σ=[some (.ref p),some (.ref lw),some (.ref lg),some (.ref q),z4]/\H3 lw=some (.frz o (.dK kl))/\∀ b ob,H2 b=some ob->b≠lw->H3 b=some ob) ⟨_,rfl,ac,λ b ob e ne=>by rw [ag ne];exact e⟩ (λ j σ H3 _ ⟨_,_,h,_⟩=>h) ?_ ?_
   ·rintro j kv σ H3 hkv ⟨z4,rfl,hf,k3⟩;obtain ⟨n,e0,e2,ev,er⟩:=tl.at_ S.nk hkv;have ekv:kV kv.1=.str n:=by rw [e2];rfl
    rw [ekv];have hn3:=hn2.but hl hl2 k3;obtain ⟨dn,wn,yn,hq,hw,hy⟩:=id hn3;have no3:=fsN_no wn yn (m:="want") (by decide +kernel) (by decide +kernel);have ei:ps[j]?=some (n,((fi n:Int):Rat)):=by rw [<- hps,eN,e0];rfl
    refine ⟨_,rfl,q,a.Net,dn,_,1,["self","place"],spNWant a,rfl,hq,no3,T.cl_Net,by decide,ok_Net_want T,_,rfl,q,ps,ds,j,n,_,rfl,hn3,ndp,ei,λ qf ff=>?_⟩;refine ⟨qf,_,rfl,ff,λ t nt=>?_⟩;have nlt:lw≠t:=λ z=>by rw [z,nt] at hf;cases hf
    have s4:=ak (o:=.tup [.int ((fi n:Int):Rat).num,.int (((fi n:Int):Rat).den:Nat)]) nt;have ht:upd H3 t (.tup [.int ((fi n:Int):Rat).num,.int (((fi n:Int):Rat).den:Nat)]) t=some (.tup [.int (fi n),.int 1]):=by rw [ac,Rat.num_intCast,Rat.den_intCast];rfl
    have hf4:=s4 _ _ hf;generalize upd H3 t (.tup [.int ((fi n:Int):Rat).num,.int (((fi n:Int):Rat).den:Nat)])=H4 at s4 ht hf4 ⊢;refine ⟨_,rfl,_,rfl,lw,.int (fi n),rfl,.inl ⟨kl,Sum.inr n,.inr ⟨o,hf4⟩,rfl,by rw [ev,show kv.2=V.int (fi n) from er]⟩,zL2,λ t2 nt2=>?_⟩;have s5:=ak (o:=.tup [.int (fi n),.int 1]) nt2;refine ⟨t,t2,_,_,rfl,rfl,SqT.of (s5 _ _ ht),SqT.of ac,rfl,rfl,_,rfl,aU (by unfold bJ bJ bJ;rw [cc rfl,cc rfl];rfl) ?_⟩;exact ⟨_,rfl,s5 _ _ hf4,λ b ob e ne=>s5 _ _ (s4 _ _ (k3 b ob e ne))⟩
   ·rintro σ H3 ⟨z4,rfl,hf,k3⟩;refine ⟨o,hf,z4,rfl,λ b ob e=>?_⟩;by_cases hb:b=lw
    ·subst hb;rw [ac,<- hl2,e]
    ·rw [ag hb];exact k3 _ _ e hb
  rintro zU hzU σ' H3 ⟨z4,rfl,s3⟩;have s13:=s1.trans (s2.trans s3);have hg3:=s13 _ _ hg
  have hn3:NetNew a H H3 q ps ds:=by
   obtain ⟨d1,d2,d3,g1,g2,g3,g4,g5⟩:=hn2;exact ⟨d1,d2,d3,s3 _ _ g1,g2.mono s3,g3.mono s3,g4,g5⟩
  subst hzU;refine ⟨lg,.dK kg,hg3,(by intro o z e;cases e),_,rfl,lg,kg,rfl,hg3,λ o=>?_⟩;refine for_dict (a:=lg) (o:=o) (kvs:=kg) (λ j σ H4=>∃ z4,σ=[some (.ref p),some (.ref lw),some (.ref lg),some (.ref q),z4]/\H4 lg=some (.frz o (.dK kg))/\∀ b ob,H3 b=some ob->b≠lg->H4 b=some ob) ⟨_,rfl,ac,λ b ob e ne=>by rw [ag ne];exact e⟩ (λ j σ H4 _ ⟨_,_,h,_⟩=>h) ?_ ?_
  ·rintro j kv σ H4 hkv ⟨z5,rfl,hf,k4⟩;obtain ⟨n,e0,e2,ev,er⟩:=tg.at_ S.nw hkv;have hnw:=fk e0;obtain ⟨g1,g2,g3,g4,g5⟩:=S.gk n hnw;have gsm:=S.gs n hnw;have ekv:kV kv.1=.str n:=by rw [e2];rfl
   rw [ekv];have hn4:=hn3.but hg hg3 k4;obtain ⟨dn,wn,yn,hq,hw,hy⟩:=id hn4;have no3:=fsN_no wn yn (m:="way") (by decide +kernel) (by decide +kernel);refine ⟨_,rfl,q,a.Net,dn,_,1,["self","name"],spNetWay a,rfl,hq,no3,T.cl_Net,by decide,ok_Net_way T,_,rfl,q,ps,ds,gg n,by rw [g1];rfl,hn4,ndd,by rw [<- hds];exact eX.mpr ⟨n,hnw,rfl⟩,λ v hv=>?_⟩;obtain ⟨p1,vh,vc,qx,rfl,W,_⟩:=hv;rw [g2] at W;obtain ⟨dx1,fs1,ho1,h51,hlk⟩:=id W.ob;have fx:=W.fq (by nofun);rw [g3] at fx
   have sm:SmR (gg n).x:=by
    rw [g3];refine ⟨?_,?_⟩
    ·rw [Rat.num_intCast];exact Sm.of_le (n:=100) (eQ (Nat.le_of_lt gsm) (by decide)) (by decide)
    ·rw [Rat.den_intCast];exact Sm.of_le (n:=100) (by decide) (by decide)
   refine ⟨p1,_,dx1,fs1,7,["self"],spGain a .gro,rfl,ho1,h51.ga,T.wG.cl,by decide,gain_Growing T,p1,_,_,_,_,_,_,(gg n).x,rfl,W,sm,λ r H5 s5 fr=>?_⟩;have fr:FrAt a.Fraction H5 r (gg n).x:=fr;rw [g3] at fr;have hf5:=s5 _ _ hf;refine ⟨r,_,rfl,fr,λ t nt=>?_⟩;have s6:=ak (o:=.tup [.int ((gi n:Int):Rat).num,.int (((gi n:Int):Rat).den:Nat)]) nt;have ht:upd H5 t (.tup [.int ((gi n:Int):Rat).num,.int (((gi n:Int):Rat).den:Nat)]) t=some (.tup [.int (gi n),.int 1]):=by rw [ac,Rat.num_intCast,Rat.den_intCast];rfl
   have hf6:=s6 _ _ hf5;generalize upd H5 t (.tup [.int ((gi n:Int):Rat).num,.int (((gi n:Int):Rat).den:Nat)])=H6 at s6 ht hf6 ⊢;refine ⟨_,rfl,_,rfl,lg,.int (gi n),rfl,.inl ⟨kg,Sum.inr n,.inr ⟨o,hf6⟩,rfl,by rw [ev,show kv.2=V.int (gi n) from er]⟩,zL2,λ t2 nt2=>?_⟩;have s7:=ak (o:=.tup [.int (gi n),.int 1]) nt2;refine ⟨t,t2,_,_,rfl,rfl,SqT.of (s7 _ _ ht),SqT.of ac,rfl,rfl,_,rfl,aU (by unfold bJ bJ bJ;rw [cc rfl,cc rfl];rfl) ?_⟩;exact ⟨_,rfl,s7 _ _ hf6,λ b ob e ne=>s7 _ _ (s6 _ _ (s5 _ _ (k4 b ob e ne)))⟩
  ·rintro σ H4 ⟨z5,rfl,hf,k4⟩;refine ⟨o,hf,k _ (s13.trans λ b ob e=>?_)⟩;by_cases hb:b=lg
   ·subst hb;rw [ac,<- hg3,e]
   ·rw [ag hb];exact k4 _ _ e hb
noncomputable def Kp4 (dw dy lw lg:Addr) (H H':Hp):Prop:=∀ b o,H b=some o->b≠dw->b≠dy->b≠lw->b≠lg->H' b=some o
noncomputable def nms (c:Int) (n:Nat):List Str:=(List.range n).map λ(j:Nat)=>nmK c (j:Int)
theorem mem_nms {c:Int} {n:Nat} {k:Int} (h0:0<=k) (h1:k<n):nmK c k∈nms c n:=by
 obtain ⟨j,rfl⟩:∃ j:Nat,k=j:=⟨k.toNat,by omega⟩;exact eX.mpr ⟨j,List.mem_range.mpr (by omega),rfl⟩
theorem addK_in {ks:List Str} {n:Str} (h:n∈ks):cg ks n=ks:=if_pos h
theorem upf_cast (fi:Str->Int) (n:Str) (i:Int):(λ m=>((upf fi n i m:Int):Rat))=upf (λ m=>((fi m:Int):Rat)) n (i:Rat):=by
 funext m
 unfold upf
 split <;> rfl
theorem DeskAt.put {H:Hp} {p dw dy da d:Addr} {ks:List Str} {f:Str->Rat} {ws:List Str} {g:Str->WD} {kvs:List (Key × V)} {o:HO} (D:DeskAt a H p dw dy da ks f ws g) (hd:H d=some (.dK kvs)) (n1:d≠dw) (n2:d≠dy) (n3:d≠da):DeskAt a (upd H d o) p dw dy da ks f ws g:=by
 obtain ⟨dx,e⟩:=D.ob;obtain ⟨k1,e1,t1⟩:=D.wa;obtain ⟨k2,e2,t2⟩:=D.wy;have kd:KeepD H (upd H d o):=.put hd;exact ⟨⟨dx,by rw [ag λ z=>by rw [z,hd] at e;cases e];exact e⟩,⟨k1,by rw [ag n1.symm];exact e1,t1.mono λ _ _ z=>z.keep kd⟩,⟨k2,by rw [ag n2.symm];exact e2,t2.mono λ _ _ z=>z.put hd⟩,by rw [ag n3.symm];exact D.am,D.n1,D.n2,D.n3⟩
theorem nodup_offK {ws:List Str} {n:Str} (h:ws.Nodup):(offK ws n).Nodup:=h.sublist List.filter_sublist
theorem len_offK (ws:List Str) (n:Str):(offK ws n).length<=ws.length:=List.length_filter_le _ _
theorem tup_eq1 (x:Str):bJ [.str x] [.str x]=true:=by
 unfold bJ bJ;rw [cc rfl];rfl
theorem tup_eq2 (x y:Str):bJ [.str x,.str y] [.str x,.str y]=true:=by
 unfold bJ;rw [tup_eq1,cc rfl];rfl
inductive IspStep (a:Ad) (vs:List V) (H:Hp) (Q:VK):Prop
 | mk (p dw dy da lw lg:Addr) (c cell:Int) (fi:Str->Int) (ws:List Str) (gi:Str->Int) (gg:Str->WD) (h1:vs=[.ref p,.int cell,.int c,.ref lw,.ref lg]) (h2:LS a H p dw dy da lw lg (nms c 12) fi ws gi gg) (h3:∀ H' fi' ws' gi' gg',Kp4 dw dy lw lg H H'->LS a H' p dw dy da lw lg (nms c 12) fi' ws' gi' gg'->Q (.bl true) H'):IspStep a vs H Q
noncomputable def spStep (a:Ad):Sp:=λ vs H Q _=>IspStep a vs H Q
theorem ok_law_step (T:TX K mg a):FnB P w K mg base CX0 "_law_step" 11 ["_law_desk","_law_cell","_law_first","_law_wants","_law_gains"] (spStep a):=by
 refine T.d_law_step.ok sc_law_step (λ vs H Q E h=>?_) (λ f cdv A outer s H vs Q E hr h=>?_)
 ·obtain ⟨_,_,_,_,_,_,_,_,_,_,_,_,rfl,_⟩:=h;rfl
 ·obtain ⟨p,dw,dy,da,lw,lg,c,cell,fi,ws,gi,gg,rfl,S,k⟩:=h
  refine ⟨_,(aM (aD (i:=5) sc_law_step.nd rfl (Or.inl rfl) (aA bo (aA op_mulB (aA bo (pv 1) (aA op_pow ai ai)) ai) ai))
   (ad (aD (i:=6) sc_law_step.nd rfl (Or.inl rfl) (aN (br T) hr aC (aa (aA bo (pv 5) ai) (aa (pv 2) af))))
   (aM (aD (i:=7) sc_law_step.nd rfl (Or.inl rfl) (aA op_add ai (aA bo (aA d6 (pv 5) ai) ai)))
   (aM (aB (aq a8 (aA bo (pv 1) ai) ai (aw _)) (ad (aD (i:=8) sc_law_step.nd rfl (Or.inl rfl) (aN (cY T) hr aC (aa (pv 0) (aa (aA ax (aA ax (aA ax au (pv 6)) au) (aQ bh (by rfl) T.z_str fE (aa (pv 7) af))) af))))
   (ad (aB (bH (bj (bd hr) (pv 6) (pv 3))) (ae (av (cm (op_eqT hr.units0) (pv 8) (b8 (aa au af)) (aw _)))) aj)
   (ad (bX (bd hr) (pv 3) (pv 6) (pv 7) rfl)
   (ae (av (cm a8 (pv 8) au (aw _))))))) aj)
   (aM (aB (PW.pt (cn (aq a8 (aA bo (pv 1) ai) ai (aw _)) (ck (bH (pc_din (bd hr) (pv 6) (pv 4)))))) (ad (bf (pe_dpop1 (pv 4) (pv 6) ⟨rfl,rfl,rfl,rfl⟩))
   (ae (av (cm a8 (aN (cY T) hr aC (aa (pv 0) (aa (aA ax au (pv 6)) af))) au (aw _))))) aj)
   (ad (aD (i:=9) sc_law_step.nd rfl (Or.inl rfl) (aN (br T) hr aC (aa (aA bo (aA d6 (pv 5) ai) ai) (aa (pv 2) af))))
   (aM (aD (i:=10) sc_law_step.nd rfl (Or.inl rfl) (aN (br T) hr aC (aa (aA bo (aA op_add (aA d6 (pv 5) ai) ai) ai) (aa (pv 2) af))))
   (aM (aD (i:=8) sc_law_step.nd rfl (Or.inl rfl) (aN (cY T) hr aC (aa (pv 0) (aa (aA ax (aA ax (aA ax (aA ax (aA ax (aA ax (aA ax (aA ax au (pv 6)) au) (pv 9)) au) (pv 10)) au) (aQ bh (by rfl) T.z_str fE (aa (pv 7) af))) au) af))))
   (ad (aB (aq a8 (pv 9) (pv 10) (aw _)) (ae (av (cm (op_eqT hr.units0) (pv 8) (b8 (aa au af)) (aw _)))) aj)
   (ad (aB (bH (bj (bd hr) (pv 9) (pv 3))) (ae (av (cm (op_eqT hr.units0) (pv 8) (b8 (aa au (aa (pv 9) af))) (aw _)))) aj)
   (ad (aB (PW.pt (cn (bH (bj (bd hr) (pv 6) (pv 4))) (ck (aq a8 (az call_lenD (by rfl) T.z_len f6 (aa (pv 4) af)) ai (aw _))))) (ae (av (cm (op_eqT hr.units0) (pv 8) (b8 (aa au af)) (aw _)))) aj)
   (ad (bX (bd hr) (pv 4) (pv 6) (pv 7) rfl)
   (ae (av (cm a8 (pv 8) au (aw _)))))))))))))))),?_⟩
  try dsimp only [aL,Cx.nox,Cx.wish]
  generalize hk9:tCut _ _=k9
  revert k9
  refine keepG λ k9 hk9=>?_;obtain ⟨kl,hl,tl⟩:=S.hl;obtain ⟨kg,hg,tg⟩:=S.hg;have lks:(nms c 12).length=12:=by unfold nms;rw [eB,List.length_range]
  have lkl:=tl.len;have lkg:=tg.len;have lv:=S.lv;have e12:(10:Int) ^ 12=1000000000000:=by decide
  obtain ⟨c0,c1⟩:=bq cell (show (0:Int)<10 ^ 12 by decide);obtain ⟨m0,m1⟩:=bq (cell % 10 ^ 12*48271) (show (0:Int)<2147483647 by decide);subst hk9;refine cf (λ σ' H'=>σ'=[some (.ref p),some (.int cell),some (.int c),some (.ref lw),some (.ref lg),some (.int (cell % 10 ^ 12*48271 % 2147483647)),none,none,none,none,none]/\H'=H) ?_ ?_
  ·refine ⟨_,rfl,_,_,rfl,rfl,⟨by decide,by decide,by decide⟩,_,_,rfl,rfl,by show (0:Int)<10 ^ 12;decide,_,_,rfl,rfl,⟨Sm.of_le (n:=100) (by show (cell % 10 ^ 12).natAbs<=2 ^ 100;omega) (by decide),Sm.of_le (n:=100) (by decide) (by decide)⟩,_,_,rfl,rfl,zI2147483647,rfl,rfl⟩
  rintro zU hzU σ' H0 ⟨rfl,rfl⟩;subst hzU;generalize hk9:tCut _ _=k9
  revert k9
  refine keepG λ k9 hk9=>?_;generalize cell % 10 ^ 12*48271 % 2147483647=mx at m0 m1 ⊢;obtain ⟨v0,v1⟩:=bq (mx / 26) (show (0:Int)<1000 by decide);refine ⟨_,rfl,_,_,rfl,rfl,zI26,_,rfl,mx % 26,c,rfl,?_⟩;subst hk9;refine cf (λ σ' H'=>∃ (n:Str) (i:Int),σ'=[some (.ref p),some (.int cell),some (.int c),some (.ref lw),some (.ref lg),some (.int mx),some (.str n),some (.int i),none,none,none]/\H'=H0/\bG n=true/\0<i/\i<=1000) ?_ ?_
  ·exact ⟨_,rfl,_,_,rfl,rfl,⟨by decide,by decide⟩,_,_,rfl,rfl,zI1000,_,_,rfl,rfl,nmK c (mx % 26),1+mx / 26 % 1000,rfl,rfl,dI _ _,by omega,by omega⟩
  rintro zU hzU σ' H1 ⟨n,i,rfl,rfl,hn,i0,i1⟩;have ln:=(ba hn).2.1;have ism:i.natAbs<10 ^ 9:=by omega
  have sml:=cq ism;have tl9:=txt_len ism;have ilog:i.natAbs.log2<1920:=Tx.log (show i.natAbs<2 ^ 1900 from Nat.lt_trans ism (by decide));have ln0:("place ":Str).length=6:=rfl;have ln1:(" ":Str).length=1:=rfl;have ln2:("drop ":Str).length=5:=rfl;have ln3:("way ":Str).length=4:=rfl;have ln4:(" - 0":Str).length=4:=rfl;subst hzU;refine cf (λ σ' H'=>σ'=[some (.ref p),some (.int cell),some (.int c),some (.ref lw),some (.ref lg),some (.int mx),some (.str n),some (.int i),none,none,none]/\H'=H1) ?_ ?_
  ·refine ⟨_,rfl,_,_,rfl,rfl,zI3,rfl,_,rfl,ifV (λ e=>?_) (λ e=>⟨rfl,rfl⟩)⟩
   have dn:cO (nms c 12) ws (.place n (i:Rat))=if n∈nms c 12 then none else some (2,("":Str)):=by
    show (if (!decide (n∈nms c 12) && decide ((nms c 12).length=12))=true then some (2,("":Str)) else none)=_;rw [lks];by_cases h:n∈nms c 12
    ·rw [if_pos h,eK h];rfl
    ·rw [if_neg h,eD h];rfl
   refine ⟨_,rfl,_,rfl,_,_,rfl,rfl,by rw [eF,ln0];omega,_,_,rfl,rfl,by rw [eF,et,ln0,ln1];omega,_,rfl,i,rfl,ilog,_,_,rfl,rfl,?_,?_⟩
   ·rw [eF,et,et,ln0,ln1]
    have:(Str.ofString (toString i)).length<=900:=tl9
    omega
   refine ⟨p,dw,dy,da,nms c 12,_,ws,gg,.place n (i:Rat),by rw [row_place,cu];rfl,S.D,⟨hn,sml⟩,trivial,by omega,by omega,λ e1 H2 kp D2=>?_,λ x e1 q H2 s2 hq=>?_⟩
   ·have nin:n∈nms c 12:=Decidable.byContradiction λ z=>by rw [dn,if_neg z] at e1;cases e1
    have hl2:=kp _ _ hl S.ap.a1 S.ap.a2;have hg2:=kp _ _ hg S.ap.b1 S.ap.b2;obtain ⟨v,ev,_⟩:=tl.vals n nin;refine ⟨_,rfl,_,rfl,lw,_,rfl,DGet.k (k:=Sum.inr n) hl2,_,rfl,?_⟩;rw [ev];refine iteF ⟨_,rfl,_,rfl,_,rfl,lw,_,rfl,DPut.k (k:=Sum.inr n) hl2 (a9 (by omega)),?_⟩;have D3:=D2.put (o:=.dK (aJ kl (Sum.inr n) (.int i))) hl2 S.ap.a1 S.ap.a2 S.ap.a3
    have S3:LS a (upd H2 lw (.dK (aJ kl (Sum.inr n) (.int i)))) p dw dy da lw lg (nms c 12) (upf fi n i) ws gi gg:=by
     refine ⟨?_,⟨_,ac,?_⟩,⟨kg,by rw [ag S.ap.c.symm];exact hg2,tg.mono λ _ _ z=>z⟩,S.ap,S.gk,S.gs,S.nk,S.nw,S.lk,S.lv⟩
     ·rw [upf_cast]
      have:DeskAt a _ p dw dy da (cg (nms c 12) n) (upf (λ m=>((fi m:Int):Rat)) n (i:Rat)) ws gg:=D3
      rw [addK_in nin] at this;exact this
     ·have:=Tab.put (H:=upd H2 lw (.dK (aJ kl (Sum.inr n) (.int i)))) (R:=InIs) (n:=n) (v:=.int i) (y:=i) (tl.mono λ _ _ z=>z) rfl
      rw [addK_in nin] at this;exact this
    refine ⟨_,rfl,rfl,?_⟩;rw [eK rfl];exact k _ _ _ _ _ (λ b o e n1 n2 n3 n4=>by rw [ag n3];exact kp b o e n1 n2) S3
   ·have nin:¬ n∈nms c 12:=λ z=>by rw [dn,if_pos z] at e1;cases e1
    rw [dn,if_neg nin] at e1
    cases e1;refine ⟨_,rfl,_,rfl,lw,_,rfl,DGet.k (k:=Sum.inr n) (s2 _ _ hl),_,rfl,?_⟩;rw [tl.none nin];refine iteT ⟨_,rfl,zL1,λ t nt=>?_⟩;have s3:=ak (o:=.tup [.str "many"]) nt;refine ⟨q,t,_,_,rfl,rfl,SqT.of (s3 _ _ hq),SqT.of ac,rfl,rfl,?_⟩;show Q (.bl (bJ [.str "many"] [.str "many"])) _;rw [tup_eq1];have s23:=s2.trans s3;exact k _ fi ws gi gg (λ b o e _ _ _ _=>s23 _ _ e) ⟨S.D.mono s23,⟨kl,s23 _ _ hl,tl.mono λ _ _ z=>z⟩,⟨kg,s23 _ _ hg,tg.mono λ _ _ z=>z⟩,S.ap,S.gk,S.gs,S.nk,S.nw,S.lk,S.lv⟩
  rintro zU hzU σ' H2 ⟨rfl,rfl⟩;subst hzU;refine cf (λ σ' H'=>σ'=[some (.ref p),some (.int cell),some (.int c),some (.ref lw),some (.ref lg),some (.int mx),some (.str n),some (.int i),none,none,none]/\H'=H2) ?_ ?_
  ·refine ⟨_,rfl,_,_,rfl,rfl,zI3,rfl,_,rfl,ifV (λ e=>?_) (λ e=>iteF ⟨rfl,rfl⟩)⟩;refine ⟨_,rfl,_,rfl,lg,_,rfl,DGet.k (k:=Sum.inr n) hg,_,rfl,?_⟩;by_cases nin:n∈ws
   case neg=>
    rw [tg.none nin];exact iteF ⟨rfl,rfl⟩
   obtain ⟨v,ev,_⟩:=tg.vals n nin;rw [ev];refine iteT ?_;refine ⟨_,rfl,lg,rfl,.inl ⟨kg,.inl hg⟩,_,rfl,kg,Sum.inr n,v,hg,rfl,ev,?_⟩;have D3:=S.D.put (o:=.dK (aT kg (Sum.inr n))) hg S.ap.b1 S.ap.b2 S.ap.b3;have hg3:upd H2 lg (.dK (aT kg (Sum.inr n))) lg=some (.dK (aT kg (Sum.inr n))):=ac;have hl3:upd H2 lg (.dK (aT kg (Sum.inr n))) lw=some (.dK kl):=by rw [ag S.ap.c];exact hl
   have kp3:∀ b o,H2 b=some o->b≠lg->upd H2 lg (.dK (aT kg (Sum.inr n))) b=some o:=λ b o e ne=>by rw [ag ne];exact e
   generalize upd H2 lg (.dK (aT kg (Sum.inr n)))=H3 at D3 hg3 hl3 kp3 ⊢;refine ⟨_,rfl,_,rfl,_,_,rfl,rfl,by rw [eF,ln2];omega,?_⟩;refine ⟨p,dw,dy,da,nms c 12,_,ws,gg,.drop n,by rw [row_drop];rfl,D3,hn,nin,by omega,by omega,λ e1 H4 kp D4=>?_,λ x e1=>by cases e1⟩;refine ⟨rfl,?_⟩;rw [eK rfl];have tb:Tab InIs H4 (aT kg (Sum.inr n)) (offK ws n) gi:=Tab.off (H:=H4) (tg.mono λ _ _ z=>z);exact k H4 fi (offK ws n) gi gg (λ b o e n1 n2 n3 n4=>kp b o (kp3 b o e n4) n1 n2) ⟨D4,⟨kl,kp _ _ hl3 S.ap.a1 S.ap.a2,tl.mono λ _ _ z=>z⟩,⟨_,kp _ _ hg3 S.ap.b1 S.ap.b2,tb⟩,S.ap,λ m hm=>S.gk m (mem_offK.mp hm).1,λ m hm=>S.gs m (mem_offK.mp hm).1,S.nk,nodup_offK S.nw,S.lk,eQ (len_offK ws n) S.lv⟩
  rintro zU hzU σ' H3 ⟨rfl,rfl⟩;obtain ⟨u0,u1⟩:=bq (mx / 26000) (show (0:Int)<14 by decide);obtain ⟨w0,w1⟩:=bq (mx / 26000+1) (show (0:Int)<12 by decide);subst hzU;generalize hk9:tCut _ _=k9
  revert k9
  refine keepG λ k9 hk9=>?_;refine ⟨_,rfl,_,_,rfl,rfl,⟨by decide,by decide⟩,_,_,rfl,rfl,zI14,_,rfl,mx / 26000 % 14,c,rfl,?_⟩;subst hk9;refine cf (λ σ' H'=>∃ (st go:Str),σ'=[some (.ref p),some (.int cell),some (.int c),some (.ref lw),some (.ref lg),some (.int mx),some (.str n),some (.int i),none,some (.str st),some (.str go)]/\H'=H3/\bG st=true/\bG go=true/\go∈nms c 12) ?_ ?_
  ·exact ⟨_,rfl,_,_,rfl,rfl,⟨by decide,by decide⟩,_,_,rfl,rfl,_,_,rfl,rfl,zI12,_,rfl,(mx / 26000+1) % 12,c,rfl,_,_,rfl,rfl,dI _ _,dI _ _,mem_nms w0 w1⟩
  rintro zU hzU σ' H4 ⟨st,go,rfl,rfl,hst,hgo,gin⟩;have ls:=(ba hst).2.1;have lg':=(ba hgo).2.1
  have dn:cO (nms c 12) ws (.way n st go (i:Rat))=if st=go then some (0,("":Str)) else if st∈nms c 12 then (if n∈ws then none else if ws.length=24 then some (2,("":Str)) else none) else some (1,st):=by
   show (if (decide (("way":Str) = "way") && decide (st=go))=true then some (0,("":Str)) else match (if st∈nms c 12 then if go∈nms c 12 then none else some go else some st) with | some n=>some (1,n) | none=>if (!decide (n∈ws) && decide (ws.length=24))=true then some (2,("":Str)) else none)=_;by_cases h1:st=go
   ·rw [if_pos h1,eK h1];rfl
   ·rw [if_neg h1,eD h1,fZ,if_neg (by decide)];by_cases h2:st∈nms c 12
    ·rw [if_pos h2,if_pos gin,if_pos h2];by_cases h3:n∈ws
     ·rw [if_pos h3,eK h3];rfl
     ·rw [if_neg h3,eD h3];by_cases h4:ws.length=24
      ·rw [if_pos h4,eK h4];rfl
      ·rw [if_neg h4,eD h4];rfl
    ·rw [if_neg h2,if_neg h2]
  subst hzU;refine cf (λ σ' H'=>∃ v,σ'=[some (.ref p),some (.int cell),some (.int c),some (.ref lw),some (.ref lg),some (.int mx),some (.str n),some (.int i),some v,some (.str st),some (.str go)]/\((cO (nms c 12) ws (.way n st go (i:Rat))=none/\v=.str "ok"/\Kp2 dw dy H4 H'/\DeskAt a H' p dw dy da (nms c 12) (λ m=>((fi m:Int):Rat)) (cg ws n) (upf gg n ⟨n,st,go,.gro,(i:Rat)⟩))∨∃ x q,cO (nms c 12) ws (.way n st go (i:Rat))=some x/\v=.ref q/\Same H4 H'/\H' q=some (.tup (tupR x)))) ?_ ?_
  ·refine ⟨_,rfl,_,rfl,_,_,rfl,rfl,by rw [eF,ln3];omega,_,_,rfl,rfl,by rw [eF,et,ln3,ln1];omega,_,rfl,_,_,rfl,rfl,by rw [eF,et,et,ln3,ln1];omega,_,_,rfl,rfl,by rw [eF,et,et,et,ln3,ln1];omega,_,rfl,_,_,rfl,rfl,by rw [eF,et,et,et,et,ln3,ln1];omega,_,_,rfl,rfl,by rw [eF,et,et,et,et,et,ln3,ln1];omega,_,rfl,i,rfl,ilog,_,_,rfl,rfl,?_,_,_,rfl,rfl,?_,?_⟩
   ·have:(Str.ofString (toString i)).length<=900:=tl9
    rw [eF,et,et,et,et,et,et,ln3,ln1];omega
   ·have:(Str.ofString (toString i)).length<=900:=tl9
    rw [eF,et,et,et,et,et,et,et,ln3,ln1,ln4];omega
   exact ⟨p,dw,dy,da,nms c 12,_,ws,gg,.way n st go (i:Rat),by rw [row_way,cu];rfl,S.D,⟨hn,hst,hgo,sml,by rw [Rat.num_intCast];exact i0⟩,trivial,by omega,by omega,λ e1 H5 kp D5=>⟨_,rfl,.inl ⟨e1,rfl,kp,D5⟩⟩,λ x e1 q H5 s5 hq=>⟨_,rfl,.inr ⟨x,q,e1,rfl,s5,hq⟩⟩⟩
  rintro zU hzU σ' H5 ⟨v,rfl,hv⟩;subst hzU;have same:∀ {H6:Hp},Same H4 H6->Q (.bl true) H6:=λ s6=>k _ fi ws gi gg (λ b o e _ _ _ _=>s6 _ _ e) ⟨S.D.mono s6,⟨kl,s6 _ _ hl,tl.mono λ _ _ z=>z⟩,⟨kg,s6 _ _ hg,tg.mono λ _ _ z=>z⟩,S.ap,S.gk,S.gs,S.nk,S.nw,S.lk,S.lv⟩;by_cases h1:st=go
  ·rw [dn,if_pos h1] at hv;rcases hv with ⟨z,_⟩ | ⟨x,q,ex,rfl,s5,hq⟩
   ·cases z
   cases ex;refine ⟨_,rfl,_,rfl,rfl,_,rfl,bY (eK (fv V.str h1)) ?_⟩;refine ⟨_,rfl,zL1,λ t nt=>?_⟩;have s6:=ak (o:=.tup [.str "row"]) nt;refine ⟨q,t,_,_,rfl,rfl,SqT.of (s6 _ _ hq),SqT.of ac,rfl,rfl,?_⟩;show Q (.bl (bJ [.str "row"] [.str "row"])) _;rw [tup_eq1];exact same (s5.trans s6)
  rw [dn,if_neg h1] at hv;refine ⟨_,rfl,_,rfl,rfl,_,rfl,aU (eD λ z=>h1 (V.str.inj z)) ?_⟩;by_cases h2:st∈nms c 12
  case neg=>
   rw [if_neg h2] at hv;rcases hv with ⟨z,_⟩ | ⟨x,q,ex,rfl,s5,hq⟩
   ·cases z
   cases ex;refine ⟨_,rfl,_,rfl,lw,_,rfl,DGet.k (k:=Sum.inr st) (s5 _ _ hl),_,rfl,?_⟩;rw [tl.none h2];refine iteT ⟨_,rfl,_,rfl,zL2,λ t nt=>?_⟩;have s6:=ak (o:=.tup [.str "place",.str st]) nt;refine ⟨q,t,_,_,rfl,rfl,SqT.of (s6 _ _ hq),SqT.of ac,rfl,rfl,?_⟩;show Q (.bl (bJ [.str "place",.str st] [.str "place",.str st])) _;rw [tup_eq2];exact same (s5.trans s6)
  rw [if_pos h2] at hv;obtain ⟨vs2,ev2,_⟩:=tl.vals st h2
  have hl5:H5 lw=some (.dK kl):=by
   rcases hv with ⟨_,_,kp,_⟩ | ⟨_,_,_,_,s5,_⟩
   ·exact kp _ _ hl S.ap.a1 S.ap.a2
   ·exact s5 _ _ hl
  have hg5:H5 lg=some (.dK kg):=by
   rcases hv with ⟨_,_,kp,_⟩ | ⟨_,_,_,_,s5,_⟩
   ·exact kp _ _ hg S.ap.b1 S.ap.b2
   ·exact s5 _ _ hg
  refine ⟨_,rfl,_,rfl,lw,_,rfl,DGet.k (k:=Sum.inr st) hl5,_,rfl,?_⟩;rw [ev2];refine iteF ?_
  have good:∀ (_:(if n∈ws then none else if ws.length=24 then some (2,("":Str)) else none)=(none:Option (Nat × Str))) (lw24:(cg ws n).length<=24) (e:v=.str "ok") (kp:Kp2 dw dy H4 H5) (D5:DeskAt a H5 p dw dy da (nms c 12) (λ m=>((fi m:Int):Rat)) (cg ws n) (upf gg n ⟨n,st,go,.gro,(i:Rat)⟩)),Q (.bl true) (upd H5 lg (.dK (aJ kg (Sum.inr n) (.int i)))):=λ _ lw24 e kp D5=>by
   refine k _ fi (cg ws n) (upf gi n i) (upf gg n ⟨n,st,go,.gro,(i:Rat)⟩) (λ b o e n1 n2 n3 n4=>by rw [ag n4];exact kp b o e n1 n2) ⟨D5.put hg5 S.ap.b1 S.ap.b2 S.ap.b3,⟨kl,by rw [ag S.ap.c];exact hl5,tl.mono λ _ _ z=>z⟩,⟨_,ac,Tab.put (tg.mono λ _ _ z=>z) rfl⟩,S.ap,λ m hm=>?_,λ m hm=>?_,S.nk,dG S.nw,S.lk,lw24⟩
   ·by_cases em:m=n
    ·subst em;rw [bZ,bZ];exact ⟨rfl,rfl,rfl,h2,gin⟩
    ·rw [dC em,dC em];exact S.gk m ((mem_addK.mp hm).resolve_right em)
   ·by_cases em:m=n
    ·subst em;rw [bZ];exact ism
    ·rw [dC em];exact S.gs m ((mem_addK.mp hm).resolve_right em)
  refine ⟨_,rfl,_,rfl,lg,_,rfl,DGet.k (k:=Sum.inr n) hg5,_,rfl,?_⟩;by_cases h3:n∈ws
  ·rw [if_pos h3] at hv;rcases hv with ⟨_,rfl,kp,D5⟩ | ⟨x,q,ex,_⟩
   case inr=>cases ex
   obtain ⟨vg,evg,_⟩:=tg.vals n h3;rw [evg];refine iteF (iteF ⟨_,rfl,_,rfl,_,rfl,lg,_,rfl,DPut.k (k:=Sum.inr n) hg5 (a9 (by omega)),?_⟩);refine ⟨_,rfl,rfl,?_⟩;rw [eK rfl];exact good (if_pos h3) (by rw [addK_in h3];exact S.lv) rfl kp D5
  ·rw [if_neg h3] at hv;rw [tg.none h3];refine iteT ⟨_,rfl,lg,kg,rfl,hg5,rfl,_,rfl,?_⟩;by_cases h4:ws.length=24
   ·rw [if_pos h4] at hv;rcases hv with ⟨z,_⟩ | ⟨x,q,ex,rfl,s5,hq⟩
    ·cases z
    cases ex;refine bY (eK (by rw [lkg,h4];rfl)) ⟨_,rfl,zL1,λ t nt=>?_⟩;have s6:=ak (o:=.tup [.str "many"]) nt;refine ⟨q,t,_,_,rfl,rfl,SqT.of (s6 _ _ hq),SqT.of ac,rfl,rfl,?_⟩;show Q (.bl (bJ [.str "many"] [.str "many"])) _;rw [tup_eq1];exact same (s5.trans s6)
   ·rw [if_neg h4] at hv;rcases hv with ⟨_,rfl,kp,D5⟩ | ⟨x,q,ex,_⟩
    case inr=>cases ex
    refine aU (eD λ z=>h4 (by have:=V.int.inj z;omega)) ⟨_,rfl,_,rfl,_,rfl,lg,_,rfl,DPut.k (k:=Sum.inr n) hg5 (a9 (by omega)),?_⟩;refine ⟨_,rfl,rfl,?_⟩;rw [eK rfl];exact good ((if_neg h3).trans (if_neg h4)) (by rw [addK_new h3,fm];show ws.length+1<=24;omega) rfl kp D5
theorem nms_succ (c:Int) (i:Nat):nms c (i+1)=nms c i++[nmK c i]:=by unfold nms;rw [List.range_succ,fo];rfl
theorem nms_not {c:Int} {i:Nat} (h:i<26):¬ nmK c i∈nms c i:=λ m=>by
 obtain ⟨j,hj,e⟩:=eX.mp m;have hj:=List.mem_range.mp hj
 have:=nmK_inj e
 omega
theorem bK (c:Int) (i:Nat):(nms c i).length=i:=by unfold nms;rw [eB,List.length_range]
theorem nmK_ne {c k k':Int} (h:k % 26≠k' % 26):nmK c k≠nmK c k':=λ e=>h (nmK_inj e)
theorem cut_both {xs:List V} (i j:Nat):cutV xs (some (i:Int)) (some (j:Int))=(xs.drop (min i xs.length)).take (min j xs.length-min i xs.length):=by
 unfold cutV;rw [HT.sIx_nat,HT.sIx_nat]
theorem ok_law {f:Addr} {fd:FuncData} (N:Fun K "law" "law" s_law f fd) (T:TX K mg a):FnOk P w K mg base CX0 16 f fd ["_law_script"] (spLaw K):=by
 refine N.ok sc_law (λ vs H Q E h=>?_) (λ cdv A outer s H vs Q E hr h=>?_)
 ·obtain ⟨l,ns,rfl,_⟩:=h;rfl
 ·obtain ⟨l,ns,rfl,hS,hlen,hbt,k⟩:=h
  refine ⟨_,(ad (aD (i:=1) sc_law.nd rfl (Or.inl rfl) (aN (cb T) hr aC (aa (pv 0) (aa ai af))))
   (ad (aD (i:=2) sc_law.nd rfl (Or.inl rfl) (pe_mk0 (mk_Desk T) hr T.mg_Desk aC))
   (ad (aD (i:=3) sc_law.nd rfl (Or.inl rfl) bO)
   (ad (aD (i:=4) sc_law.nd rfl (Or.inl rfl) bO)
   (aM (cW fU rfl (pi_range1 rfl T.z_range (aa ai af)) (bt (i:=5) sc_law.nd rfl (Or.inl rfl)) (ad (aD (i:=6) sc_law.nd rfl (Or.inl rfl) (aN (br T) hr aC (aa (pv 5) (aa (pv 1) af))))
   (ad (bX (bd hr) (pv 3) (pv 6) (aA op_sub (aA bo (aN (cb T) hr aC (aa (pv 0) (aa ai af))) (aA op_pow ai ai)) (pv 5)) rfl)
   (ae (aB (aq op_ne (bT (CX:=CX1 P w) (pv 2) hr pass1n (aa (aA ax (aA ax (aA ax au (pv 6)) au) (aQ bh (by rfl) T.z_str fE (aa (db (bd hr) (pv 3) (pv 6) (λ _ _=>rfl)) af))) af)) au (aw _)) (ae (av pe_bl)) aj)))))
   (aM (cW fU rfl (pi_range1 rfl T.z_range (aa ai af)) (bt (i:=5) sc_law.nd rfl (Or.inl rfl)) (ad (aD (i:=6) sc_law.nd rfl (Or.inl rfl) (aN (br T) hr aC (aa (pv 5) (aa (pv 1) af))))
   (ad (bX (bd hr) (pv 4) (pv 6) (aA op_add (aA op_add ai (aA bo (aN (cb T) hr aC (aa (pv 0) (aa ai af))) (aA op_pow ai ai))) (pv 5)) rfl)
   (ad (aD (i:=7) sc_law.nd rfl (Or.inl rfl) (aA ax (aA ax (aA ax (aA ax (aA ax au (pv 6)) au) (aN (br T) hr aC (aa (aA bo (pv 5) ai) (aa (pv 1) af)))) au) (aN (br T) hr aC (aa (aA bo (aA op_add (pv 5) ai) ai) (aa (pv 1) af)))))
   (ae (aB (aq op_ne (bT (CX:=CX1 P w) (pv 2) hr pass1n (aa (aA ax (aA ax (aA ax (pv 7) au) (aQ bh (by rfl) T.z_str fE (aa (db (bd hr) (pv 4) (pv 6) (λ _ _=>rfl)) af))) au) af)) au (aw _)) (ae (av pe_bl)) aj))))))
   (aM (cW fU rfl (pi_list (pe_slice sl_list (pv 0) (po_some ai) (po_some ai))) (bt (i:=8) sc_law.nd rfl (Or.inl rfl)) (ae (aB (cV (bg (aN (ok_law_step T) hr aC (aa (pv 2) (aa (pv 8) (aa (pv 1) (aa (pv 3) (aa (pv 4) af)))))))) (ae (av pe_bl)) aj)))
   (ae (av (aN (ok_law_known T) hr aC (aa (pv 2) (aa (pv 3) (aa (pv 4) af))))))))))))),?_⟩
  try dsimp only [aL,Cx.nox,Cx.wish]
  refine ⟨_,rfl,l,ns,0,rfl,hS,?_⟩;generalize bU ns 0=c;intro p dx n1 n2 n3;have ss:=same_two (C:=a.Desk) n1 n2;refine ⟨p,dx,rfl,ac,λ H1 dw dy da m1 m2 m3 hs hD=>⟨rfl,?_⟩⟩;have s1:=same_new n1 n2 hs;have nw:=ss.free m1;have ny:=ss.free m2;obtain ⟨kw,hw1,_⟩:=(hD (λ _=>0) (λ n=>⟨n,n,n,.gro,0⟩)).wa;obtain ⟨ky,hy1,_⟩:=(hD (λ _=>0) (λ n=>⟨n,n,n,.gro,0⟩)).wy;have ha1:=(hD (λ _=>0) (λ n=>⟨n,n,n,.gro,0⟩)).am;intro lw nlw;have nl':=s1.free nlw;have s2:=ak (o:=.dK []) nlw;have h2:upd H1 lw (.dK []) lw=some (.dK []):=ac;have e1:lw≠dw:=λ z=>by rw [z,hw1] at nlw;cases nlw
  have e2:lw≠dy:=λ z=>by rw [z,hy1] at nlw;cases nlw
  have e3:lw≠da:=λ z=>by rw [z,ha1] at nlw;cases nlw
  generalize upd H1 lw (.dK [])=H2 at s2 h2 ⊢;intro lg nlg;have s12:=s1.trans s2;have ng':=s12.free nlg;have s3:=ak (o:=.dK []) nlg;have h3:upd H2 lg (.dK []) lg=some (.dK []):=ac;have e4:lg≠dw:=λ z=>by rw [z,s2 _ _ hw1] at nlg;cases nlg
  have e5:lg≠dy:=λ z=>by rw [z,s2 _ _ hy1] at nlg;cases nlg
  have e6:lg≠da:=λ z=>by rw [z,s2 _ _ ha1] at nlg;cases nlg
  have e7:lw≠lg:=λ z=>by rw [<- z,h2] at nlg;cases nlg
  have h23:=s3 _ _ h2;generalize upd H2 lg (.dK [])=H3 at s3 h3 h23 ⊢;have s13:=s12.trans s3;have S0:LS a H3 p dw dy da lw lg (nms c 0) (λ _=>0) [] (λ _=>0) (λ n=>⟨n,n,n,.gro,0⟩):=⟨(hD _ _).mono (s2.trans s3),⟨[],h23,Tab.nil⟩,⟨[],h3,Tab.nil⟩,⟨e1,e2,e3,e4,e5,e6,e7⟩,λ n hn=>absurd hn fA,λ n hn=>absurd hn fA,List.nodup_nil,List.nodup_nil,by rw [bK];decide,by decide⟩;have nos:=c6 dw dy da (m:="say") (by decide +kernel);have ln0:("place ":Str).length=6:=rfl;have ln1:(" ":Str).length=1:=rfl;have ln3:("way ":Str).length=4:=rfl;have ln4:(" - 0":Str).length=4:=rfl;have toK:∀ {H5 H6:Hp},Same H H5->(∀ b o,H5 b=some o->b≠dw->b≠dy->b≠lw->b≠lg->H6 b=some o)->Same H H6:=λ s5 k6 b o e=>k6 b o (s5 b o e) (ay e nw) (ay e ny) (ay e nl') (ay e ng');refine cf (λ σ' H'=>∃ z5 z6 fi,σ'=[some (.ref l),some (.int c),some (.ref p),some (.ref lw),some (.ref lg),z5,z6,none,none]/\Same H H'/\LS a H' p dw dy da lw lg (nms c 12) fi [] (λ _=>0) (λ n=>⟨n,n,n,.gro,0⟩)) ?_ ?_
  ·refine ⟨(12:Int),rfl,by decide,by decide,for_range (n:=(12:Int).toNat) (λ i σ H4=>i<=12/\∃ z5 z6 fi,σ=[some (.ref l),some (.int c),some (.ref p),some (.ref lw),some (.ref lg),z5,z6,none,none]/\Same H H4/\LS a H4 p dw dy da lw lg (nms c i) fi [] (λ _=>0) (λ n=>⟨n,n,n,.gro,0⟩)) ⟨by decide,none,none,_,rfl,s13,S0⟩ ?_ ?_⟩
   ·rintro i σ H4 hi ⟨_,z5,z6,fi,rfl,s4,S⟩;have hi:i<12:=hi;obtain ⟨k0,hk0⟩:∃ k0:Int,k0=0+(i:Int):=⟨_,rfl⟩;rw [<- hk0];have ek:k0=(i:Int):=by omega
    refine ⟨_,rfl,_,rfl,k0,c,rfl,?_⟩;obtain ⟨dx4,hp4⟩:=S.D.ob;obtain ⟨kl,hl,tl⟩:=S.hl;obtain ⟨kg,hg,tg⟩:=S.hg;have lkl:=tl.len;rw [bK] at lkl;obtain ⟨c0,c1⟩:=bq (bU ns 1) (show (0:Int)<10 ^ 9 by decide);have e9:(10:Int) ^ 9=1000000000:=by decide
    refine ⟨_,rfl,l,ns,1,rfl,s4.seq hS,_,_,rfl,rfl,⟨by decide,by decide,by decide⟩,_,_,rfl,rfl,by show (0:Int)<10 ^ 9;decide,_,rfl,_,_,rfl,rfl,_,rfl,_,rfl,lw,_,rfl,DPut.k (k:=Sum.inr (nmK c k0)) hl (a9 (by omega)),?_⟩;generalize hv:bU ns 1 % 10 ^ Int.toNat 9-k0=v;have hv:bU ns 1 % 10 ^ 9-k0=v:=hv;have vs:v.natAbs<10 ^ 9:=by omega
    have nn:=nms_not (c:=c) (i:=i) (by omega);rw [<- ek] at nn;have nsu:nms c (i+1)=cg (nms c i) (nmK c k0):=by rw [addK_new nn,nms_succ,ek]
    generalize hnm:nmK c k0=n at nn nsu ⊢;have okn:bG n=true:=by rw [<- hnm];exact dI _ _
    have lnn:=(ba okn).2.1;have tb:Tab InIs (upd H4 lw (.dK (aJ kl (Sum.inr n) (.int v)))) (aJ kl (Sum.inr n) (.int v)) (cg (nms c i) n) (upf fi n v):=Tab.put (tl.mono λ _ _ z=>z) rfl;have D5:=S.D.put (o:=.dK (aJ kl (Sum.inr n) (.int v))) hl e1 e2 e3;have hl5:upd H4 lw (.dK (aJ kl (Sum.inr n) (.int v))) lw=some (.dK (aJ kl (Sum.inr n) (.int v))):=ac;have hg5:upd H4 lw (.dK (aJ kl (Sum.inr n) (.int v))) lg=some (.dK kg):=by rw [ag e7.symm];exact hg
    have hp5:upd H4 lw (.dK (aJ kl (Sum.inr n) (.int v))) p=some (.ins a.Desk dx4 (fsD dw dy da)):=by rw [ag λ z=>by rw [z,hl] at hp4;cases hp4];exact hp4
    have k5:∀ b o,H4 b=some o->b≠lw->upd H4 lw (.dK (aJ kl (Sum.inr n) (.int v))) b=some o:=λ b o e ne=>by rw [ag ne];exact e
    have vget:aZ (aJ kl (Sum.inr n) (.int v)) (Sum.inr n)=some (.int v):=by rw [valV_put,if_pos rfl]
    generalize upd H4 lw (.dK (aJ kl (Sum.inr n) (.int v)))=H5 at tb D5 hl5 hg5 hp5 k5 ⊢;have tl9:=txt_len vs
    have dn:cO (nms c i) [] (.place n (v:Rat))=none:=by
     show (if (!decide (n∈nms c i) && decide ((nms c i).length=12))=true then some (2,("":Str)) else none)=_;rw [bK,eD (show ¬ i=12 by omega),fZ];rfl
    refine ⟨_,rfl,p,a.Desk,dx4,_,9,["self","row"],spSay a,rfl,hp5,nos,T.cl_Desk,by decide,cZ T,_,rfl,_,_,rfl,rfl,by rw [eF,ln0];omega,_,_,rfl,rfl,by rw [eF,et,ln0,ln1];omega,_,rfl,_,rfl,lw,.int v,rfl,by rw [<- vget];exact DGet.k (k:=Sum.inr n) hl5,v,rfl,Tx.log (show v.natAbs<2 ^ 1900 from Nat.lt_trans vs (by decide)),_,_,rfl,rfl,?_,?_⟩
    ·have:(Str.ofString (toString v)).length<=900:=tl9
     rw [eF,et,et,ln0,ln1];omega
    refine ⟨p,dw,dy,da,nms c i,_,[],_,.place n (v:Rat),by rw [row_place,cu];rfl,D5,⟨okn,cq vs⟩,trivial,by rw [bK];omega,by decide,λ _ H6 kp D6=>?_,λ x e=>by rw [dn] at e;cases e⟩;refine ⟨rfl,_,rfl,iteNS rfl ⟨by omega,_,_,upf fi n v,rfl,toK s4 (λ b o e m1 m2 m3 m4=>kp b o (k5 b o e m3) m1 m2),?_⟩⟩;rw [nsu];refine ⟨?_,⟨_,kp _ _ hl5 e1 e2,tb.mono λ _ _ z=>z⟩,⟨kg,kp _ _ hg5 e4 e5,tg.mono λ _ _ z=>z⟩,S.ap,λ m hm=>absurd hm fA,S.gs,dG S.nk,S.nw,by rw [<- nsu,bK];omega,S.lv⟩;rw [upf_cast];exact D6
   ·rintro σ H4 ⟨_,z5,z6,fi,rfl,s4,S⟩;exact ⟨z5,z6,fi,rfl,s4,S⟩
  rintro zU hzU σ' H4 ⟨z5,z6,fi,rfl,s4,S4⟩;subst hzU;refine cf (λ σ' H'=>∃ z5 z6 z7 gi gg,σ'=[some (.ref l),some (.int c),some (.ref p),some (.ref lw),some (.ref lg),z5,z6,z7,none]/\Same H H'/\LS a H' p dw dy da lw lg (nms c 12) fi (nms c 24) gi gg) ?_ ?_
  ·refine ⟨(24:Int),rfl,by decide,by decide,for_range (n:=(24:Int).toNat) (λ i σ H5=>i<=24/\∃ z5 z6 z7 gi gg,σ=[some (.ref l),some (.int c),some (.ref p),some (.ref lw),some (.ref lg),z5,z6,z7,none]/\Same H H5/\LS a H5 p dw dy da lw lg (nms c 12) fi (nms c i) gi gg) ⟨by decide,_,_,_,_,_,rfl,s4,S4⟩ ?_ ?_⟩
   ·rintro i σ H5 hi ⟨_,z5,z6,z7,gi,gg,rfl,s5,S⟩;have hi:i<24:=hi;obtain ⟨k0,hk0⟩:∃ k0:Int,k0=0+(i:Int):=⟨_,rfl⟩;rw [<- hk0];have ek:k0=(i:Int):=by omega
    refine ⟨_,rfl,_,rfl,k0,c,rfl,?_⟩;obtain ⟨dx5,hp5⟩:=S.D.ob;obtain ⟨kl,hl,tl⟩:=S.hl;obtain ⟨kg,hg,tg⟩:=S.hg;have lkg:=tg.len;rw [bK] at lkg;obtain ⟨c0,c1⟩:=bq (bU ns 2) (show (0:Int)<10 ^ 8 by decide);have e8:(10:Int) ^ 8=100000000:=by decide
    refine ⟨_,rfl,l,ns,2,rfl,s5.seq hS,_,_,rfl,rfl,⟨by decide,by decide,by decide⟩,_,_,rfl,rfl,by show (0:Int)<10 ^ 8;decide,_,_,rfl,rfl,_,rfl,_,_,rfl,rfl,_,rfl,_,rfl,lg,_,rfl,DPut.k (k:=Sum.inr (nmK c k0)) hg (a9 (by omega)),?_⟩;generalize hv:1+bU ns 2 % 10 ^ Int.toNat 8+k0=v;have hv:1+bU ns 2 % 10 ^ 8+k0=v:=hv;have v0:0<v:=by omega
    have vs:v.natAbs<10 ^ 9:=by omega
    have nn:=nms_not (c:=c) (i:=i) (by omega);rw [<- ek] at nn;have nsu:nms c (i+1)=cg (nms c i) (nmK c k0):=by rw [addK_new nn,nms_succ,ek]
    generalize hnm:nmK c k0=n at nn nsu ⊢;have okn:bG n=true:=by rw [<- hnm];exact dI _ _
    have lnn:=(ba okn).2.1;have tb:Tab InIs (upd H5 lg (.dK (aJ kg (Sum.inr n) (.int v)))) (aJ kg (Sum.inr n) (.int v)) (cg (nms c i) n) (upf gi n v):=Tab.put (tg.mono λ _ _ z=>z) rfl;have D6:=S.D.put (o:=.dK (aJ kg (Sum.inr n) (.int v))) hg e4 e5 e6;have hg6:upd H5 lg (.dK (aJ kg (Sum.inr n) (.int v))) lg=some (.dK (aJ kg (Sum.inr n) (.int v))):=ac;have hl6:upd H5 lg (.dK (aJ kg (Sum.inr n) (.int v))) lw=some (.dK kl):=by rw [ag e7];exact hl
    have hp6:upd H5 lg (.dK (aJ kg (Sum.inr n) (.int v))) p=some (.ins a.Desk dx5 (fsD dw dy da)):=by rw [ag λ z=>by rw [z,hg] at hp5;cases hp5];exact hp5
    have k6:∀ b o,H5 b=some o->b≠lg->upd H5 lg (.dK (aJ kg (Sum.inr n) (.int v))) b=some o:=λ b o e ne=>by rw [ag ne];exact e
    have vget:aZ (aJ kg (Sum.inr n) (.int v)) (Sum.inr n)=some (.int v):=by rw [valV_put,if_pos rfl]
    generalize upd H5 lg (.dK (aJ kg (Sum.inr n) (.int v)))=H6 at tb D6 hl6 hg6 hp6 k6 ⊢;have tl9:=txt_len vs;obtain ⟨u0,u1⟩:=bq k0 (show (0:Int)<12 by decide);obtain ⟨w0,w1⟩:=bq (k0+5) (show (0:Int)<12 by decide);have sin:=mem_nms (c:=c) (n:=12) u0 u1;have gin:=mem_nms (c:=c) (n:=12) w0 w1;have sne:nmK c (k0 % 12)≠nmK c ((k0+5) % 12):=nmK_ne (by omega);have oks:=dI c (k0 % 12);have okg:=dI c ((k0+5) % 12);have lns:=(ba oks).2.1;have lng:=(ba okg).2.1;refine ⟨_,rfl,_,_,rfl,rfl,by rw [eF,ln3];omega,_,_,rfl,rfl,by rw [eF,et,ln3,ln1];omega,_,rfl,_,_,rfl,rfl,zI12,_,rfl,k0 % 12,c,rfl,?_⟩;generalize nmK c (k0 % 12)=st at sin sne oks lns ⊢;refine ⟨_,_,rfl,rfl,by rw [eF,et,et,ln3,ln1];omega,_,_,rfl,rfl,by rw [eF,et,et,et,ln3,ln1];omega,_,rfl,_,_,rfl,rfl,_,_,rfl,rfl,zI12,_,rfl,(k0+5) % 12,c,rfl,?_⟩;generalize nmK c ((k0+5) % 12)=go at gin sne okg lng ⊢;refine ⟨_,_,rfl,rfl,by rw [eF,et,et,et,et,ln3,ln1];omega,?_⟩
    have dn:cO (nms c 12) (nms c i) (.way n st go (v:Rat))=none:=by
     show (if (decide (("way":Str) = "way") && decide (st=go))=true then some (0,("":Str)) else match (if st∈nms c 12 then if go∈nms c 12 then none else some go else some st) with | some n=>some (1,n) | none=>if (!decide (n∈nms c i) && decide ((nms c i).length=24))=true then some (2,("":Str)) else none)=_;rw [eD sne,fZ,if_neg (by decide),if_pos sin,if_pos gin,bK,eD (show ¬ i=24 by omega),fZ];rfl
    refine ⟨_,rfl,p,a.Desk,dx5,_,9,["self","row"],spSay a,rfl,hp6,nos,T.cl_Desk,by decide,cZ T,_,rfl,_,_,rfl,rfl,by rw [eF,et,et,et,et,et,ln3,ln1];omega,_,rfl,_,rfl,lg,.int v,rfl,by rw [<- vget];exact DGet.k (k:=Sum.inr n) hg6,v,rfl,Tx.log (show v.natAbs<2 ^ 1900 from Nat.lt_trans vs (by decide)),_,_,rfl,rfl,?_,_,_,rfl,rfl,?_,?_⟩
    ·have:(Str.ofString (toString v)).length<=900:=tl9
     rw [eF,et,et,et,et,et,et,ln3,ln1];omega
    ·have:(Str.ofString (toString v)).length<=900:=tl9
     rw [eF,et,et,et,et,et,et,et,ln3,ln1,ln4];omega
    refine ⟨p,dw,dy,da,nms c 12,_,nms c i,gg,.way n st go (v:Rat),by rw [row_way,cu];rfl,D6,⟨okn,oks,okg,cq vs,by rw [Rat.num_intCast];exact v0⟩,trivial,by rw [bK];decide,by rw [bK];omega,λ _ H7 kp D7=>?_,λ x e=>by rw [dn] at e;cases e⟩;refine ⟨rfl,_,rfl,iteNS rfl ⟨by omega,_,_,_,upf gi n v,upf gg n ⟨n,st,go,.gro,(v:Rat)⟩,rfl,toK s5 (λ b o e m1 m2 m3 m4=>kp b o (k6 b o e m4) m1 m2),?_⟩⟩;rw [nsu];refine ⟨D7,⟨kl,kp _ _ hl6 e1 e2,tl.mono λ _ _ z=>z⟩,⟨_,kp _ _ hg6 e4 e5,tb.mono λ _ _ z=>z⟩,S.ap,λ m hm=>?_,λ m hm=>?_,S.nk,dG S.nw,S.lk,by rw [<- nsu,bK];omega⟩
    ·by_cases em:m=n
     ·subst em;rw [bZ,bZ];exact ⟨rfl,rfl,rfl,sin,gin⟩
     ·rw [dC em,dC em];exact S.gk m ((mem_addK.mp hm).resolve_right em)
    ·by_cases em:m=n
     ·subst em;rw [bZ];exact vs
     ·rw [dC em];exact S.gs m ((mem_addK.mp hm).resolve_right em)
   ·rintro σ H5 ⟨_,z5,z6,z7,gi,gg,rfl,s5,S⟩;exact ⟨z5,z6,z7,gi,gg,rfl,s5,S⟩
  rintro zU hzU σ' H5 ⟨z5',z6',z7,gi,gg,rfl,s5,S5⟩;subst hzU;refine cf (λ σ' H'=>∃ z5 z6 z7 z8 fi ws gi gg,σ'=[some (.ref l),some (.int c),some (.ref p),some (.ref lw),some (.ref lg),z5,z6,z7,z8]/\LS a H' p dw dy da lw lg (nms c 12) fi ws gi gg) ?_ ?_
  ·refine ⟨_,rfl,_,rfl,_,rfl,l,_,rfl,s5.seq hS,λ l3 nl3=>?_⟩
   have ec:cutV (ns.map V.int) (some 3) (some 63)=((ns.drop (min 3 ns.length)).take (min 63 ns.length-min 3 ns.length)).map V.int:=by
    have:=cut_both (xs:=ns.map V.int) 3 63
    rw [eB,<- List.map_drop,<- List.map_take] at this;exact this
   rw [ec];generalize (ns.drop (min 3 ns.length)).take (min 63 ns.length-min 3 ns.length)=ms;have s6:=ak (o:=.lst (ms.map V.int)) nl3;have h6:upd H5 l3 (.lst (ms.map V.int)) l3=some (.lst (ms.map V.int)):=ac
   have S6:LS a (upd H5 l3 (.lst (ms.map V.int))) p dw dy da lw lg (nms c 12) fi (nms c 24) gi gg:=by
    obtain ⟨kl,hl,tl⟩:=S5.hl;obtain ⟨kg,hg,tg⟩:=S5.hg;exact ⟨S5.D.mono s6,⟨kl,s6 _ _ hl,tl.mono λ _ _ z=>z⟩,⟨kg,s6 _ _ hg,tg.mono λ _ _ z=>z⟩,S5.ap,S5.gk,S5.gs,S5.nk,S5.nw,S5.lk,S5.lv⟩
   generalize upd H5 l3 (.lst (ms.map V.int))=H6 at s6 h6 S6 ⊢;refine ⟨l3,rfl,⟨_,SqL.of h6⟩,for_list (K:=K) (a:=l3) (xs:=ms.map V.int) (λ i σ H7=>∃ z5 z6 z7 z8 fi ws gi gg,σ=[some (.ref l),some (.int c),some (.ref p),some (.ref lw),some (.ref lg),z5,z6,z7,z8]/\H7 l3=some (.lst (ms.map V.int))/\LS a H7 p dw dy da lw lg (nms c 12) fi ws gi gg) ⟨_,_,_,_,_,_,_,_,rfl,h6,S6⟩ (λ i σ H7 _ ⟨_,_,_,_,_,_,_,_,_,h,_⟩=>SqL.of h) ?_ ?_⟩
   ·rintro i x σ H7 hx ⟨y5,y6,y7,y8,fi',ws',gi',gg',rfl,h7,S7⟩;rw [eN] at hx;obtain ⟨m,em,rfl⟩:=fj.mp hx;obtain ⟨kw7,hw7,_⟩:=S7.D.wa;obtain ⟨ky7,hy7,_⟩:=S7.D.wy;obtain ⟨kl7,hl7,_⟩:=S7.hl;obtain ⟨kg7,hg7,_⟩:=S7.hg;refine ⟨_,rfl,_,rfl,_,rfl,_,rfl,_,rfl,p,dw,dy,da,lw,lg,c,m,fi',ws',gi',gg',rfl,S7,λ H8 fi8 ws8 gi8 gg8 kp S8=>?_⟩;refine ⟨_,rfl,iteF ⟨_,_,_,_,_,_,_,_,rfl,kp _ _ h7 ?_ ?_ ?_ ?_,S8⟩⟩
    ·intro z;rw [z,hw7] at h7;cases h7
    ·intro z;rw [z,hy7] at h7;cases h7
    ·intro z;rw [z,hl7] at h7;cases h7
    ·intro z;rw [z,hg7] at h7;cases h7
   ·rintro σ H7 ⟨y5,y6,y7,y8,fi',ws',gi',gg',rfl,h7,S7⟩;exact ⟨_,_,_,_,_,_,_,_,rfl,S7⟩
  rintro zU hzU σ' H6 ⟨y5,y6,y7,y8,fi',ws',gi',gg',rfl,S6⟩;subst hzU;exact ⟨_,rfl,_,rfl,_,rfl,p,dw,dy,da,lw,lg,nms c 12,fi',ws',gi',gg',rfl,S6,λ H' _=>k H'⟩
end
end G
namespace G
open PySem L2
theorem ln1 {α:Type} {P:List α->Prop} (h:∀ a,P [a]):∀ us:List α,us.length=1->P us
 | [a],_=>h a
theorem ln2 {α:Type} {P:List α->Prop} (h:∀ a b,P [a,b]):∀ us:List α,us.length=2->P us
 | [a,b],_=>h a b
theorem ln3 {α:Type} {P:List α->Prop} (h:∀ a b c,P [a,b,c]):∀ us:List α,us.length=3->P us
 | [a,b,c],_=>h a b c
theorem ln5 {α:Type} {P:List α->Prop} (h:∀ a b c d e,P [a,b,c,d,e]):∀ us:List α,us.length=5->P us
 | [a,b,c,d,e],_=>h a b c d e
theorem ln6 {α:Type} {P:List α->Prop} (h:∀ a b c d e f,P [a,b,c,d,e,f]):∀ us:List α,us.length=6->P us
 | [a,b,c,d,e,f],_=>h a b c d e f
theorem ln7 {α:Type} {P:List α->Prop} (h:∀ a b c d e f g,P [a,b,c,d,e,f,g]):∀ us:List α,us.length=7->P us
 | [a,b,c,d,e,f,g],_=>h a b c d e f g
section
variable {K:W.Frag} {h:Heap} {mg:Str->Option Value} {x qual:Str} {st:Stmt} {f C T:Addr} {fd:FuncData} {ps:List Str} {ds:Array Value} {oc:Value} {od an:Option Addr} {osl:Array (Option Value)} {kV doc pm cdv ct:Value}
noncomputable def BA (x qual:Str) (st:Stmt) (ps:List Str) (us:List Value):Prop:=∀ (kV doc pm:Value) (an:Option Addr) (cdv ct:Value),bindArgs (W.fnOf x qual (bE st) (aS st) (ah st) .none kV doc pm an cdv ct) ⟨us,[]⟩=pure (ps.zip us)
noncomputable def BE (x qual:Str) (st:Stmt) (ps:List Str) (ds:Array Value) (es us:List Value):Prop:=∀ (T:Addr) (kV doc pm:Value) (an:Option Addr) (cdv ct:Value),∃ k,bindArgs (W.fnOf x qual (bE st) (aS st) (ah st) (.ref T) kV doc pm an cdv ct) ⟨us,[]⟩=seqItems? (.ref T) >>= k/\k (some ds)=pure (ps.zip (us++es))
theorem bi (N:Fun K x qual st f fd) (b:∀ us:List Value,us.length=ps.length->BA x qual st ps us):Binds K fd ps []:=N.binds λ kV doc pm an cdv ct us hl=>b us hl kV doc pm an cdv ct
theorem biD {es:List Value} {n:Nat} (N:FunD K x qual st f fd ds) (e:n+es.length=ps.length) (b:∀ us:List Value,us.length=n->BE x qual st ps ds es us):Binds K fd ps es:=N.binds λ T kV doc pm an cdv ct us hl=>b us (by rw [fm] at hl;omega) T kV doc pm an cdv ct
theorem mD (X:K.In h) (G:h.Ns mainGlobals mg) (a:W.nsIn K mainGlobals x=some (some (.ref f))) (N:Fun K x x st f fd) (b:∀ us:List Value,us.length=ps.length->BA x x st ps us):FDe K mg x st ps:=⟨_,_,N,W.mg_of X G a,bi N b⟩
theorem mM (a:W.findIn K (.ref C) x=some (some (.ref f))) (N:Fun K x qual st f fd) (i:W.isFn K (.ref f)=true) (b:∀ us:List Value,us.length=ps.length->BA x qual st ps us):MDe K C x qual st ps:=⟨_,_,N,⟨a,i,N.kp⟩,bi N b⟩
theorem mI (a:W.findIn K (.ref C) "__init__"=some (some (.ref f))) (N:Fun K "__init__" qual st f fd) (m:W.makesIn K C=true) (i:W.isFn K (.ref f)=true) (k:W.keepIn K (.ref C)=true) (b:∀ us:List Value,us.length=ps.length->BA "__init__" qual st ps us):IDe K C qual st ps [[]]:=⟨_,_,N.gen,⟨m,a,i,k⟩,λ dvs hd=>by cases List.mem_singleton.mp hd;exact ⟨[],.nil,bi N b⟩⟩
theorem mX (a:W.findIn K (.ref C) "__init__"=some (some (.ref f))) (N:Fun K "__init__" qual st f fd) (t:W.typeIn K (.ref f)=some (.type "function")) (e:excFI K C bmV "ValueError.__new__"=some f) (b:∀ us:List Value,us.length=ps.length->BA "__init__" qual st ps us):XiDe K C qual st ps:=⟨_,_,N.gen,e,t,bi N b⟩
theorem mJ {dvss:List (List V)} (a:W.findIn K (.ref C) "__init__"=some (some (.ref f))) (N:FunD K "__init__" qual st f fd ds) (m:W.makesIn K C=true) (i:W.isFn K (.ref f)=true) (k:W.keepIn K (.ref C)=true) (b:FunD K "__init__" qual st f fd ds->∀ dvs∈dvss,∃ es,Vals dvs es/\Binds K fd ps es):IDe K C qual st ps dvss:=⟨_,_,N.gen,⟨m,a,i,k⟩,b N⟩
theorem all0 {P:List V->Prop}:∀ d∈([]:List (List V)),P d:=λ _ h=>nomatch h
theorem all1 {P:List V->Prop} {d:List V} {r:List (List V)} (h:P d) (k:∀ d∈r,P d):∀ e∈d::r,P e:=λ e he=>by
 rcases eT.mp he with rfl | q
 ·exact h
 ·exact k e q
theorem mCD {n:Nat} (a:W.findCls K (.ref C) (.type "type") "__init__"=some (.val (.ref f))) (N:FunD K "__init__" qual st f fd ds) (r:W.readsIn K C (.type "type")=true) (s:W.specialIn K (.ref C) "__getattribute__"=some (some (.builtin "type.__getattribute__"))) (k:W.keepIn K (.ref f)=true) (e:n=ps.length) (b:∀ us:List Value,us.length=n->BE "__init__" qual st ps ds [] us):CDe K C qual st ps:=⟨_,_,N.gen,⟨r,s⟩,a,k,biD (es:=[]) N e b⟩
theorem mE0 {cd:ClassData} (a:W.clsIn K C=some cd):∃ cd,W.clsIn K C=some cd:=⟨_,a⟩
theorem mGi {v:Int} {t:Tok} (X:K.In h) (G:h.Ns mainGlobals mg) (a:W.nsIn K mainGlobals x=some (some (.int v t))):∃ tk,mg x=some (.int v tk):=⟨_,W.mg_of X G a⟩
theorem mGs {v:Str} {t:Tok} (X:K.In h) (G:h.Ns mainGlobals mg) (a:W.nsIn K mainGlobals x=some (some (.str v t))):∃ tk,mg x=some (.str v tk):=⟨_,W.mg_of X G a⟩
theorem mE2 {cd:ClassData} {a0 a1:Addr} (a:W.clsIn K C=some cd) (b:cd.mro=[a0,a1].map Value.ref++bmV) (c:cd.hasDict=true) (d:W.findIn K (.ref C) "__setattr__"=some (some (.builtin "object.__setattr__"))):ExI K C:=⟨⟨_,_,a,b,c⟩,d⟩
end
theorem top {l:W.OpenLaw} {w:World} {K:W.Frag} {mg:Str->Option Value} {fa A0 A1 A2 A3 A4 A5 A6 A7 A8 A9 A10 A11 A12 A13 A14 A15 A16 A17 A18 A19 A20 A21:Addr} (hfa:mg "law"=some (.ref fa)) (T:TX K mg ⟨A0,A1,A2,A3,A4,A5,A6,A7,A8,A9,A10,A11,A12,A13,A14,A15,A16,A17,A18,A19,A20,A21⟩) :
  ∃ fd:FuncData,(∀ (s:Shared) (v:Value),BindsTo s fd ⟨[v],[]⟩ [("_law_script",v)])/\∀ base:Heap,K.In base->base.Ns mainGlobals mg->FnOk l.prog w K mg base CX0 16 fa fd ["_law_script"] (spLaw K):=by
 obtain ⟨f,fd,N,e,_⟩:=T.d_law
 cases hfa.symm.trans e;obtain ⟨oc,od,kV,doc,pm,an,cdv,ct,osl,rfl,_,_⟩:=N.ex;exact ⟨_,λ s v=>.of_eq rfl,λ base _ _=>zz_all (λ T f fd N=>ok_law N T) ⟨l.prog,w,K,mg,base,_⟩ T _ _ N⟩
theorem walkL {l:PySem.W.OpenLaw} {q:Program} {loose:List Str} {XP:(Str->Option Value)->Heap->Prop} {YP:World->Heap->Prop} {d:DefRec} {K:Params->W.Frag} (hn:l.most=some 63) (hdf:d.params.defaults=[])
  (hY:∀ (w:World) (h:Heap),YP w h->(K w.params).In h)
  (F:∀ (w:World) (mg:Str->Option Value) (fa:Addr) (h:Heap),(K w.params).In h->h.Ns mainGlobals mg->mg d.name=some (.ref fa)->
   ∃ fd:FuncData,(∀ (s:Shared) (u:Value),BindsTo s fd ⟨[u],[]⟩ [("_law_script",u)])/\∀ base:Heap,(K w.params).In base->base.Ns mainGlobals mg->FnOk l.prog w (K w.params) mg base CX0 16 fa fd ["_law_script"] (spLaw (K w.params))) :
  PySem.W.WalkO q loose XP YP l.row.toRowW d [] (λ f vs=>PySem.call f vs):=
 L2.walk_ofB (n:=63) (k:=16) (x:="_law_script") (CX:=λ _=>CX0) (sp:=λ w=>spLaw (K w.params)) hn (by decide) hdf ⟨rfl,by decide,by decide⟩ hY F (λ _ _ a ns hl hb _ hS=>⟨a,ns,rfl,hS,hl,λ i hi=>⟨hb i hi⟩,λ _=>rfl⟩) λ _ _ _ _ _ z=>z
end G
open PySem L2 in
local macro_rules | `(tactic| walk_at $s:str) => do
  let v := (s.getString.splitOn " ").toArray
  if v.size < 3 then Lean.Macro.throwUnsupported
  let id (i : Nat) := Lean.mkIdent (Lean.Name.mkSimple s!"o{i}")
  let KX := Lean.mkIdent `KX
  let GN := Lean.mkIdent `GN
  let ln (n : Nat) := Lean.mkIdent (Lean.Name.mkStr2 "G" s!"ln{n}")
  let us (n : Nat) : Lean.MacroM (Lean.TSyntax `term) := do
    let hs ← (Array.range n).mapM fun _ => `(Lean.Parser.Term.funBinder| _)
    `(fun $hs:funBinder* => rfl)
  let ks ← `(tactic| (try dsimp only) <;> k_is)
  if v[0]! == "H" then
    let hs ← (Array.range v[2]!.toNat!).mapM fun i => `(?$(id i):ident)
    return ← `(tactic| refine' G.top $(Lean.mkIdent `hmg) ⟨$hs,*⟩)
  let i0 := v[1]!.toNat!
  let mut ts : Array (Lean.TSyntax `tactic) := #[]
  for (t, j) in (v.extract 2 v.size).zipIdx do
    let c := t.take 1 |>.toString
    let n := (t.drop 1).toString.toNat!
    let i := id (i0 + j)
    if (c == "m") != (v[0]! == "m") then continue
    let r ← match c with
      | "m" => `(tactic| case $i:ident => refine' W.mg_of $KX $GN ?_; k_is)
      | "d" => `(tactic| case $i:ident => refine' G.mD $KX $GN ?a (fun_mk ?l ?c ?k) ($(ln n) $(← us (n + 6))); (case a => k_is); (case l => k_is); (case c => k_is); (case k => k_is))
      | "M" => `(tactic| case $i:ident => dsimp only; refine' G.mM ?a (fun_mk ?l ?c ?k) ?i ($(ln n) $(← us (n + 6))); (case a => k_is); (case l => k_is); (case c => k_is); (case k => k_is); (case i => k_is))
      | "I" => `(tactic| case $i:ident => dsimp only; refine' G.mI ?a (fun_mk ?l ?c ?k) ?m ?i ?j ($(ln n) $(← us (n + 6))); (case a => k_is); (case l => k_is); (case c => k_is); (case k => k_is); (case m => k_is); (case i => k_is); (case j => k_is))
      | "X" => `(tactic| case $i:ident => dsimp only; refine' G.mX ?a (fun_mk ?l ?c ?k) ?t ?e ($(ln n) $(← us (n + 6))); (case a => k_is); (case l => k_is); (case c => k_is); (case k => k_is); (case t => k_is); (case e => kernel_rfl))
      | "C" => `(tactic| case $i:ident => dsimp only; refine' G.mC ?a (fun_mk ?l ?c ?k) ?r ?s ($(ln n) $(← us (n + 6))); (case a => k_is); (case l => k_is); (case c => k_is); (case k => k_is); (case r => k_is); (case s => k_is))
      | "c" => `(tactic| case $i:ident => refine' ⟨?_, ?_, ?_, ?_⟩ <;> $ks:tactic)
      | "n" => `(tactic| case $i:ident => refine' (?_ : W.findIn _ _ _ = _); $ks:tactic)
      | "k" => `(tactic| case $i:ident => $ks:tactic)
      | "t" => `(tactic| case $i:ident => (try dsimp only); kit_is)
      | "x" => `(tactic| case $i:ident => (try dsimp only); k_exc)
      | "e" => `(tactic| case $i:ident => refine' G.mE0 ?a; (case a => $ks:tactic))
      | "b" => `(tactic| case $i:ident => refine' ⟨?_, ?_⟩ <;> $ks:tactic)
      | "g" => `(tactic| case $i:ident => refine' G.mGi $KX $GN ?a; (case a => k_is))
      | "s" => `(tactic| case $i:ident => refine' G.mGs $KX $GN ?a; (case a => k_is))
      | "z" => `(tactic| case $i:ident => refine' W.mg_none_of $KX $GN ?_; k_is)
      | "E" => do
        let e := Lean.mkIdent (Lean.Name.mkStr2 "G" s!"mE{n}")
        `(tactic| case $i:ident => dsimp only; refine' $e ?a ?b ?c ?d; (case a => k_is); (case b => rfl); (case c => rfl); (case d => k_is))
      | _ => continue
    ts := ts.push r
  `(tactic| ($[$ts];*))
open PySem PySem.W PyProof.Rows
set_option maxRecDepth 100000 in
set_option maxHeartbeats 0 in
theorem PySem.Challenge.cw_gainstream_k74_one_too_many_holds : PySem.Challenge.rw_gainstream_k74_one_too_many.Holds := by
 refine PySem.Challenge.hdk74 ?_
 k_fill
 refine G.walkL (l:=PySem.Challenge.rw_gainstream_k74_one_too_many) rfl rfl (λ w h Y=>by first | exact PySem.W.kIn_of Y | exact PySem.W.km_in_of Y | exact PySem.W.pk_in_of Y) ?F
 case F=>
  intro w mg fa h KX GN hmg
  walk_at "H 22 202"
  walk_at "m 0 d2 d1 d1 d3 d2 d3 d1 d1 d1 d1 d1 d1 d1 d2 d1 d2 d1 d1 d1 d2 d2 d3 d5 d1 c0 m0 n0 n0 w0 M1 M1 k0 k0 m0 m0 m0 m0 c0 m0 n0 n0 n0 n0 n0 w0 M1 k0 k0 c0 m0 n0 n0 n0 n0 n0 n0 w0 M1 M1 k0"
  walk_at "m 60 k0 c0 m0 n0 n0 n0 n0 n0 M1 k0 k0 c0 m0 n0 n0 n0 n0 n0 M1 k0 k0 c0 m0 n0 n0 I3 M1 M2 M2 M1 c0 m0 n0 n0 n0 n0 n0 I1 M1 M2 M2 M2 M2 M2 M1 k0 k0 k0 k0 m0 m0 m0 x0 m0 m0 m0 x0 m0 m0 m0"
  walk_at "m 120 m0 X2 E2 n0 k0 b0 k0 m0 k0 e0 k0 k0 k0 k0 t0 t0 t0 t0 t0 t0 t0 k0 k0 k0 k0 k0 e0 t0 t0 t0 t0 t0 t0 t0 t0 k0 k0 k0 k0 k0 e0 t0 t0 t0 t0 t0 t0 t0 t0 k0 k0 k0 k0 k0 e0 t0 t0 t0 t0 t0"
  walk_at "r 0 d2 d1 d1 d3 d2 d3 d1 d1 d1 d1 d1 d1 d1 d2 d1 d2 d1 d1 d1 d2 d2 d3 d5 d1 c0 m0 n0 n0 w0 M1 M1 k0 k0 m0 m0 m0 m0 c0 m0 n0 n0 n0 n0 n0 w0 M1 k0 k0 c0 m0 n0 n0 n0 n0 n0 n0 w0 M1 M1 k0"
  walk_at "r 60 k0 c0 m0 n0 n0 n0 n0 n0 M1 k0 k0 c0 m0 n0 n0 n0 n0 n0 M1 k0 k0 c0 m0 n0 n0 I3 M1 M2 M2 M1 c0 m0 n0 n0 n0 n0 n0 I1 M1 M2 M2 M2 M2 M2 M1 k0 k0 k0 k0 m0 m0 m0 x0 m0 m0 m0 x0 m0 m0 m0"
  walk_at "r 120 m0 X2 E2 n0 k0 b0 k0 m0 k0 e0 k0 k0 k0 k0 t0 t0 t0 t0 t0 t0 t0 k0 k0 k0 k0 k0 e0 t0 t0 t0 t0 t0 t0 t0 t0 k0 k0 k0 k0 k0 e0 t0 t0 t0 t0 t0 t0 t0 t0 k0 k0 k0 k0 k0 e0 t0 t0 t0 t0 t0"
  walk_at "r 180 t0 t0 t0 g0 g0 g0 g0 s0 s0 w0 z0 z0 z0 z0 z0 z0 z0 z0 z0 z0 z0 z0"
  (case o28=>dsimp only;refine' G.mJ ?a (L2.funD_mk ?l ?c ?t ?d) ?m ?i ?k ?b;(case a=>k_is);(case l=>k_is);(case c=>k_is);(case t=>k_is);(case d=>rfl);(case m=>k_is);(case i=>k_is);(case k=>k_is);(case b=>exact λ N=>G.all1 ⟨[],.nil,G.biD N rfl (G.ln3 λ _ _ _ _ _ _ _ _ _ _=>⟨_,rfl,rfl⟩)⟩ (G.all1 ⟨[.int 1 _],(.cons ⟨_,rfl⟩ (.nil)),G.biD N rfl (G.ln2 λ _ _ _ _ _ _ _ _ _=>⟨_,rfl,rfl⟩)⟩ (G.all0))))
  (case o44=>dsimp only;refine' G.mCD ?a (L2.funD_mk ?l ?c ?t ?d) ?r ?s ?k rfl ?b;(case a=>k_is);(case l=>k_is);(case c=>k_is);(case t=>k_is);(case d=>rfl);(case r=>k_is);(case s=>k_is);(case k=>k_is);(case b=>exact G.ln6 λ _ _ _ _ _ _ _ _ _ _ _ _ _=>⟨_,rfl,rfl⟩))
  (case o56=>dsimp only;refine' G.mJ ?a (L2.funD_mk ?l ?c ?t ?d) ?m ?i ?k ?b;(case a=>k_is);(case l=>k_is);(case c=>k_is);(case t=>k_is);(case d=>rfl);(case m=>k_is);(case i=>k_is);(case k=>k_is);(case b=>exact λ N=>G.all1 ⟨[],.nil,G.biD N rfl (G.ln7 λ _ _ _ _ _ _ _ _ _ _ _ _ _ _=>⟨_,rfl,rfl⟩)⟩ (G.all1 ⟨[.none,.none],(.cons rfl (.cons rfl (.nil))),G.biD N rfl (G.ln5 λ _ _ _ _ _ _ _ _ _ _ _ _=>⟨_,rfl,rfl⟩)⟩ (G.all0))))
  (case o189=>exact ⟨_,_,_,_,W.mg_of KX GN (by k_is),(by rfl),(by k_is),(by exact ⟨rfl,rfl,rfl⟩),(by rfl),(by refine PyProof.Rows.KTD.Rows.cons (by rfl) ⟨_,_,_,_,(by rfl),(by k_is),(by rfl),(by rfl),(by decide),(by repeat (first | exact .nil | refine .cons ⟨_,rfl⟩ ?_))⟩ ?_;refine PyProof.Rows.KTD.Rows.cons (by rfl) ⟨_,_,_,_,(by rfl),(by k_is),(by rfl),(by rfl),(by decide),(by repeat (first | exact .nil | refine .cons ⟨_,rfl⟩ ?_))⟩ ?_;refine PyProof.Rows.KTD.Rows.cons (by rfl) ⟨_,_,_,_,(by rfl),(by k_is),(by rfl),(by rfl),(by decide),(by repeat (first | exact .nil | refine .cons ⟨_,rfl⟩ ?_))⟩ ?_;refine PyProof.Rows.KTD.Rows.cons (by rfl) ⟨_,_,_,_,(by rfl),(by k_is),(by rfl),(by rfl),(by decide),(by repeat (first | exact .nil | refine .cons ⟨_,rfl⟩ ?_))⟩ ?_;refine PyProof.Rows.KTD.Rows.cons (by rfl) ⟨_,_,_,_,(by rfl),(by k_is),(by rfl),(by rfl),(by decide),(by repeat (first | exact .nil | refine .cons ⟨_,rfl⟩ ?_))⟩ ?_;refine PyProof.Rows.KTD.Rows.cons (by rfl) ⟨_,_,_,_,(by rfl),(by k_is),(by rfl),(by rfl),(by decide),(by repeat (first | exact .nil | refine .cons ⟨_,rfl⟩ ?_))⟩ ?_;refine PyProof.Rows.KTD.Rows.cons (by rfl) ⟨_,_,_,_,(by rfl),(by k_is),(by rfl),(by rfl),(by decide),(by repeat (first | exact .nil | refine .cons ⟨_,rfl⟩ ?_))⟩ ?_;refine PyProof.Rows.KTD.Rows.cons (by rfl) ⟨_,_,_,_,(by rfl),(by k_is),(by rfl),(by rfl),(by decide),(by repeat (first | exact .nil | refine .cons ⟨_,rfl⟩ ?_))⟩ ?_;refine PyProof.Rows.KTD.Rows.cons (by rfl) ⟨_,_,_,_,(by rfl),(by k_is),(by rfl),(by rfl),(by decide),(by repeat (first | exact .nil | refine .cons ⟨_,rfl⟩ ?_))⟩ ?_;refine PyProof.Rows.KTD.Rows.cons (by rfl) ⟨_,_,_,_,(by rfl),(by k_is),(by rfl),(by rfl),(by decide),(by repeat (first | exact .nil | refine .cons ⟨_,rfl⟩ ?_))⟩ ?_;refine PyProof.Rows.KTD.Rows.cons (by rfl) ⟨_,_,_,_,(by rfl),(by k_is),(by rfl),(by rfl),(by decide),(by repeat (first | exact .nil | refine .cons ⟨_,rfl⟩ ?_))⟩ ?_;refine PyProof.Rows.KTD.Rows.cons (by rfl) ⟨_,_,_,_,(by rfl),(by k_is),(by rfl),(by rfl),(by decide),(by repeat (first | exact .nil | refine .cons ⟨_,rfl⟩ ?_))⟩ ?_;exact .nil)⟩)
#print axioms PySem.Challenge.cw_gainstream_k74_one_too_many_holds
