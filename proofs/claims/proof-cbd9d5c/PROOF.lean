import PyProof.Rows.All
import Wide.All
import OpenK.AllK
import Wide.FinOn
import PyProof.EqAt
import PyProof.EqKinds
import PyProof.TupleCall
import KE.BitLaws
import Open.SpecLaws
import KE.OsHead
import KE.OsGo
import PySem.Challenge.RW_batchrecord_s01_answers
import VbwbalSpec
import KE.KDictOf
import KE.KDictList
import KE.KMinKey
import KE.KLam
import PyProof.P3Eq
import PyProof.ZipIter
import PyProof.Rows.SortShellAny
import PyProof.Rows.SetFrom
import KE.KSortedM
import PyVbwbal
import KE.KNest
set_option Elab.async false
set_option linter.all false
section
set_option hygiene false
namespace Zt
open Lean
def zz:MacroM Term:=Macro.throwUnsupported
abbrev ZZ:=Array (MacroM Term)
abbrev ZY:=Array (MacroM (TSyntax `tactic))
def zZ:ZZ:=#[`(List Nat),`(by omega),`(List Str),`(ah H H'),`(List V),`(ZQ H s),`((·.1)),`(by simp),`(aB _ _),`(λvs H Q E h=>?_),`(by decide),`(⟨rfl,rfl,rfl,ZT,rfl,ZT,ZT⟩),`(Txt K mg A),`(λaG B outer s H vs Q E hr h=>?_),`(aS K),`(aw K),`(List Value),`(aw.got P w X G),`(⟨_,rfl⟩),`(Value->Shared->Prop),`(PE X),`(List Zf9),`(Got P w K mg base),`(Str->Option Value),`(List Addr),`(List Bytes),`(aU _),zz,`(pv 1),`(choiceOf R),`(a9 _),`(Wf P),`(pv 3),`(upd H),`(b7 _),`(bR P ab c),`(List Int),`(aa Yp),`(Option V),`(List α),`(cu K),`(bB _),`(Inv X pins σ),`(pv 2),`(cf K),`(by decide+kernel),`(ah.refl _),`(List Xr),`(signer c),`(.ref a),`(Q Z5),`(cJ mg),`(λ_=>rfl),`((·.2)),`(λ_ _=>rfl),`(Y2 1 f fd),`(ck K),`(.ref l),`(.ref p),`(Z9 c),`(ah H),`(unsigned P)]
def zY:ZZ:=#[`(List Expr),`(List (Key×V)),`(nsIn K mainGlobals),`(model X.prog X.w),`(⟨_,λ_ _ _=>di⟩),`(cP ZT),`(.type "list"),`(.lst []),`(c++[(s,x)]),`(bP P),`(cj _ _),`(.ref r),`(aD K Yp rfl),`(.ref s.heap.objs.size),`(.ref f),`(pv 0),`(List Za),`(upd H1),`(aL ?_),`(wpAny Yd X.A),`(⟨_,rfl,?_⟩),`(eval e X.env),`(.lst xs),`(load c),`(EP X pins σ Q),`(does (some R)),`(.dK kvs),`(pv 4),`(Ue A),`(Zk4 s),`(cy P),`(wpAny _ _),`(Pv m σ),`(ah H1),`(RecAt A H r i j P ab c),`(ag K H a xs),`(dC I q Zh),`(I.tok _),`(upd H2),`(Array Value),`(W7 c s),zz,`(k+1),`(gJ X),`(s.heap.objs.size+1),`(cut H i.aH),`(ws.getD 1 []),`(I.ok.hd hc),`(complete P ab),`(Nat->Int),`(dk rm),`(bT e),`(bK P),`(fE o),`(aO P w K mg base aQ),`(List Zj4),`(dw A.plan H p i P),`(model prog w),`(List ZgR),`(bw P.unlike),`(fu hR wr q),`(λ_=>true)]
def zX:ZZ:=#[`(backTo pos),`(ta σ),`(λ_ _ _ _ _=>fU),`(.inl rfl),`(ag.of ha),`(splitBy 10),`(stepAt P),`(eD P c),`(aa ZC),`(gZ P c),`(bJ f),`(g_ K),`(aa ZR ai),`(dM A H r i j R),`(by rw[e];rfl),`(Y2 17 f fd),`(c9 P w H h),`(Nat×Nat),`(.int i),`(toldOf P),`(List Pt),`(bI hz),`(ah H2),`(bw P.alike),`(.type "tuple"),`(X.calm=true),`(hR.same s1),`(RelV y u),`(signer w),`(ag K H),`(wf.gd y),`(bA _),`(i+1),`(m+1),`(bW (c6 K) Vo T.cM cU),`(s1.trans s2),zz,zz,`(c_ P ab c),`(List (κ×V)),`(KV kvs vs),zz,`(.inl h),`(.ref q),`(RelV v u),`(Zu e te),`(keys o),zz,`(bq 3 nd),`(wipe σ),`(cV _ e),`(nat x),`(kl _ _),`(Gl X x),`(aa ZR),`(aq _),`(I.aC.fresh ZA),`(by rw[hsz];decide),`(List (Int×Addr)),`(aa ZG ai),`(Y2 2 f fd),`(Pv i σ H)]
def zW:ZZ:=#[`(roleAt P),`(above ch),`(.inl q),`(fq P ab),`(.ref d),zz,`(Zu a ta),`(fS P),`(n+1),`(ah H3),`(bj (bF K)),`(ZH s.heap.objs.size),`(unsigned R.plan),`(.lst Zb3),`(get_map hy),zz,`(.ref it),`(aa ZC ai),`(Option Addr),`(List WData),`(choose k),`(fk P ab),`(lineOf P),`(k H' s1),`(upd H'),`(List β),`(.bl b),`(x::a),`(ZeN us),`(a0 hp),`(ZH l),zz,`(bN cS),`(Bool.noConfusion (show false=true from p)),`(absurd (show false=true from hs) eh),`(starEach es X.env),`(dq K dE ir iq gO),`(Array (Int×Value)),`(dJ X.prog X.w),`(bq 2 nd),`(cq (eZ _ _)),zz,`(splitBy sep),`(.lst W8),`(hf it Zh),`(iT P.after),`(bh ai),`(List Stmt),`(SameBut n),`(iO P ab w),`(.ref C),`(List Env),`(RelV x v),zz,`(bK P b),`(D.nx σ),`(eO kvs),`(Sat P),`(k _ _),`(goesWith P),`(rs.map V.ref),`(λD H' hD s1 h=>?_)]
def zV:ZZ:=#[`(starEach ZbZ),`(List (List Key×V)),`(A.handled=none),`(Option Int),`(by cases h),`((· < ·)),`(dJ P w H h a),`(.ref D),`(k _ _ Xd e),`(.tup xs),`(⟨t,rfl⟩),`(wpAny M A),`(putK kvs),`(kM K h A),`(by rfl),`(aa Ym),`(.inr h),`(lX P c),`(gP val),`(.int 1),`(nF _),`(bM K H),`(dC I q),`(hJ K C),`(Tab H),`(ZH p),`(ha pins s σ H _ I h),`(List (Str×NameKind)),`(.Tuple elts kk fQ),`(.lst Zds),`(.seq its.toArray),`(Nat->Nat->Bool),`(by cases hz),`(PA X ZbZ),`(cI L Zea),`(aZ 3 nd),zz,`(bM K H a xs),`(aZ 4 nd),`(starEach es),`(Y2 3 f fd),`(iB w a ep),`(aZ 2 nd),`(Nat->Ze),`(ZQ H' s'),`(k _ _ Zer),`(some v),zz,`(List Zz),`(choose n),`(wf.ne y),`(pv 5),`(c::r),`(iv l),`(tl y),`(I.ls z),`(K.In h),`(YH H'),`(fW m x),`(ZH a),`(ZH x),`(YH H)]
def zU:ZZ:=#[`(cut H),`(fO H'),`(jl hu),`(lN ps),`(wpAny Y5),zz,`(ps.filter λr=>r.1 != q.1),`(V->Ze->Hp->VK->Prop),`(Zw "listed" mr 1 kT),`(Str.ofString "\n"),`(.type "enumerate"),`(T.dG "entries" ZT),`(ws.getD 0 []),zz,`(T.b_ "steps" ZT),`(dq K dE ql qk oj),`(by kernel_rfl),`(Array DictEntry),`(eval o X.env),`(ws.getD 2 []),`(α->β->Prop),`(.bL od u),`(ak (ay kh)),`(ks.contains x),`(⟨rfl,rfl⟩),`(List ZK),`(ag K H1 a xs),`(hg.alike s t),`(e q.symm),`(⟨_,Xe⟩),`(Binds K fd),zz,`(get_map hx),`(pairLine P),`(splitBy 32),`(iY K Yp),`(mK P ab c),`(I.list hq),`(Nat->Nat),`(aN.mp h),`(k H ZU),`(ag.of eG),`(bq 1 nd),`(.lst l),`(Zu b tb),`(Zu o to),`(ag.of c2),zz,`(c_ P ab),`(k it Zh),`(s.at h1),`(ZeN its),`(.str x),`(kj K),`(J.go i),`(g8 H a),`(lK A u),`(upd H3),`(upd H4),`(iL x),`(a0 hq),`(ak (ay (bh (aa (bE T.qf rfl) ai))))]
def zZa:ZZ:=#[`(envOfC qual scope s.heap.objs.size f),`(bN cS ZcE cW ZP),`(Zw "unsigned_steps" nE 1 (pq A)),`(Option Value),`(he pins s σ H _ I h),`(X.gu s3 H3 scope ce fp),`(Nat->L2.St->Hp->Prop),`((bO m).length +1),`(base.Ns mainGlobals mg),`(Unit->Shared->Prop),`(ah YT Zjy),`(List (Str×Value)),`(Loc X.env.scope x),`(Paired (jc H) kvs),`(.lst (nats ss)),`(List (κ×Value)),`(T.b_ "pairs" ZT),`(.Subscript o i),`(KWd.step (ws,u)),`(List (Addr×HO)),`(List (Str×Nat)),`(Zo "__init__"),`(cb List.length),`(.type "dict"),`(Nat×List Nat),`(J.o4 i H x H'),`(s4.trans s5),`(within z 0),`(.dT kvs),`(aa YB ai),`(.bl false),`(Ue A.in1),`(some Yo),`(Vals vs us),`(.ref z.1),`(.bL o u),`(K.In base),`(Option HO),`(Pv 0 σ H),`(af rfl),`(before ps),`(ZH a o),`(cut H L),`(.dK []),`(ZE hx),`(bK P a),`(Wk Ym),`(ag.of h),`(.dict es),`(absurd z),`(ag X.K H),`(bM X.K H),`(fO H d o),`(ZE hb),`(pv 6),`(s::r),`(Rd H a),`(a0 hTp),`(c9 P w),`(eval o),`(fN H a),`(hs.2 b)]
def zZb:ZZ:=#[`(∀y,y∈P.unlike∨y∈P.alike->y.1≠y.2),`(λm v z H' hv hz s1 R S bc hS=>?_),`(cq (eZ _ _) (by rw[eM];exact ZA)),`(az fA hr rfl (ZL ai)),`(PySem.W.findIn K WY),`(λ_ _ _ _ _=>VQ),`(Inv X pins σ' H' s'),`(aN.mpr ⟨z,hz,rfl⟩),`(PySem.W.keepIn K),`(nM P w K mg base),`(XI (ZL ai)),`(hl i σ H (iP hi)),`(T.b_ "persons" ZT),`(.ins C dx fs),`(∀a∈A,mI h A a),`(λ_ _=>true),`(Nat->Za->Bool),`(T.b_ "roles" ZT),`(isSign R.entries),`(qB s.heap l1 l2),`(fV X.prog X.w),`(ys.map V.str),`(h pins s σ),`(get_map hv),`(ws.map mask),`(barred P ab c),`(by cases e),`(c9 X.prog X.w),`(iN P ps q.1 x),`(fV P w),`(vs.map toV),`(backToKw pos),`(⟨rfl,?_⟩),`(.own x),`(ps.zip us),`(λl=>x::l),`(.ins A.j9),`(G.ne L hL),`(dM A H' r i),`(Nat->Bool),`(ZW s=none),`(hP.same s1),`(jm P o YY),`(s.keep b o),`(within x 0),`(r.drop n),`(WN ZqR),`(cg e hn),`(Za->Nat),`(backTo gq),`(ag.of gQ),`(e::es),`(.ref c),`(.ref t),`(kQ Zb),`(refs zs),`(.amend e),`(List Key),`(W7 c st),`(df.mp hn),`(t σ H Q),`(.inl e)]
def zZc:ZZ:=#[`(.ins C),`(PI X tg),`(Vals ys),`(Xs t),`(Zc6 l m),`(bq 4 nd),`(lI H' l),`(mS _ _),`(c++w),`(I.aC b),`(RelV x),`(Zk4 st),`(ZlR ab),`(Z8 H1),`(aa YB),`(fh f v),`(kK i),`(kc _ _),`(ke K H),`(nU w m),`(sb.2 _),`(wb P c),`(.ListComp elt [⟨tg,iter,ifs,0⟩] scope pos),`(Paired (λr (n:List Nat)=>H' r=some Zfj)),`(∀σ H,Pv xs.length σ H->W3 H),`(.Call (Zeb p) ZbZ [] pos),`(Zw "open_options" qp 4 (t_ A)),`(List Zv1),`(ho pins s σ H _ I h),`(λ_ _ _ _ _=>VM),`(Wk ZC aR Z2),`(⟨_,dj _ rfl,rfl,rfl⟩),`(⟨.int _,H,YL,Zs,q⟩),`(ag.of (by rw[h,bz];rfl)),`(.Attribute o),`(uB K Yp WU rfl),`(.lst (rm.map V.int)),`(.ins A.part dx),`(keywordEach uS env),`(Zad->Shared->Prop),`(T.dG "signers" ZT),`(Vbwbal.insert x),`(gw C x dx fs),`(T.dG "absent" ZT),`(j_ s.heap a es ep),`(aD K Ym rfl),`(ZH n ZaR),`(List.replicate k),`(ag.of (s1.at ha)),`(hg.unlike s t h1),`(s.heap.IsList l1),`(yX g tt te vs σ),`(⟨_,Zj8⟩),`(.builtin id),`(X.N[i]? =some x),`(mG X pins),`(aD K ZC rfl),`(bc rfl _ ZU),`(Paired F),`(countWays P ab),`(gc.got P w X G),`(l.Pairwise Vf)]
def zZd:ZZ:=#[`(λs=>g s==y),`(dj _ rfl),`(Txt.split Zk1),`(⟨_,e,rfl⟩),`(.bL od YA),`(a.length+1),`(λy=>y != x),`(W7 Zci s),`(b.contains s),`(intKind prog),`(jK A H d S M),`(ki P.alike c),`(⟨_,rfl,h⟩),`(by simp[e]),`(.bL o YA),`(.ref z),`(cD.trans s3),`(model P w),`(ws.map aE),`(K.In s.heap),`(KT H kvs xs),`(h3 pos cv e),`(sp vs H Q E),`(cg q hn),`(.inr rfl),`(choose YQ),`(uF H a b),`(WN WU),`(Wy d u),`(kY P ab),`(.lst ys),`(Array Zad),`(aE x.name),`(bQ (j:=0)),`(α->Bool),`(ag.of he),`(.b9 iz),`(.ref b),`(nat st),`(some u),`(wu K a),`(.inr XQ),`(J.stop i),`(List Uz),`(Q Vh H'),`(ZE hy),`(XD b ys),`(absurd e),`(absurd h),`(ag.of hw),`(bM.of ht),`(kU ok ps),`(nv P c s),`(rows _ _),`(α->Nat),`(.inl k),`(.int n),`(.str z),`(ZE q),`(aA st),`(g i j),`(jU ps)]
def zZe:ZZ:=#[`(Xx s),`(.Name x),`(I.pin p),`(List En),`(Zu Zhv),`(Zc3 H b),`(bZ H' d),`(bq 5 nd),`(s.at h2),`(c8 Zlj),`(a++b),`(dX c),`(pJ w),`(q p hp),`(rN w),`(z::r),`(⟨rfl,Zey (λb o hb e=>eb b o hb e) f0 f1 f3 f4 f5⟩),`(λ_ _ q=>by cases q),`(λy=>(Wv (c8 (w++[(s,y)])) (w.map Zg++s::r) c).isSome),`(Int.ofNat R.plan.persons.length-1),`(barred R.plan R.absent ZD z.toNat),`(i4 2 K rfl (dn VQ (dn VJ iZ))),`(oo Zt1 c' fB),`(aO X.prog X.w X.K X.mg X.base CX k f fd ps sp),`(I.turned (t':=s.toks)),`(⟨[],trivial,λa m=>Zqt⟩),`(wK (name:=Str.ofString "__next__")),`(gP ZnD rs.length),`(Wk Yp aR Z2),`(λD H' hD s1 h=>ZfR h),`(.lst (refs ZfL)),`(λf s=>jg f g s),`(bW (vJ K rfl) Vo T.rK vQ),`(hb pins s1 σ H1),`(wR wi g tt te ZfA),`(cB X.N X.env.scope scope own),`(foldedSetIterable iter X.env),`(.ins A.record i.dx (mR i)),`(λq z=>by cases z),`(Vals xs),`(Zw "fillable" sS 13 (wX A)),`(bZ.k (k:=Sum.inr "unlike")),`(Value->Value->Sem Value),`(bZ.k (k:=Sum.inr "alike")),`(λ_ _ _ _ _=>(aZ 1 nd)),`(λq'=>hb (by simp[q'])),`(I.base.free b o e n hx),`(attributeBase o),`(∀y∈P.alike,y.1≠y.2),`((wordsOf uQ).map mask),`(.lst (P.roles.map aE)),`(I1.aC.fresh ZA),`(⟨.bl _,H,I,rfl,?_⟩),`(.tup [nat XG,x]),`(VbwbalNeutral.step S),`(zs.length<=16777000),`(partsOf P o rooms),`(iw (ws.map tl,tl u)),`(∀x,Yx x<=YE x),`(starEach [e] env),`(Binds X.K fd ps ds),`(o.data=ZaW ep)]
def zZf:ZZ:=#[`(.tup (k.map kV)),`(λ_ _=>False),`(List (Key×Value)),`(⟨[],rfl,.nil⟩),`(⟨_,Az H ha,?_⟩),`(Str.ofString s),`(t.map Int.toNat),`(Bool->Hp->Prop),`(.lst (nats l)),`(.lst (nats n)),`(pH hR wr q hd),`(PI X tg iter wi),`(T.ko "kind" ZT),`(Vbwbal.listed l),`(h.IsListIter it),`(s.heap.IsList l),`(.lst (iv c7)),`(.tup [x,y,u]),`(ns.map V.int),`(.int Zd8),`((keys o).Nodup),`(WellAll P h vs),`(text "after"),`(yW X.env.scope),`(I.tuple hq),`(ZeH _ I1 q1),`(own.map Z1),`(rO I hg hm),`(.type "set"),`(List (TE×TE)),`(Passes CX X E),`(Turn P w K tg),`(assignEach es),`(cntK cn),`(hl _ σ H ZA),`(.tup [x,y]),`(Option Expr),`(zs.take kk),`(more σ x s),`(False.elim x),`(I.lF x c e),`(SP X pins D),`(gH (nats ss)),`(k H' D s1 hD),`(nD A H p i L),`(s2.at gU ml),`(s2.trans s3),`(ZH d Uv),`(YM D Yh),`(ah.refl H),`(dS.mpr Zb),`(s3.trans s4),`(.ins A.call),`(.ins A.plan),`(.ref x),`(Y2 14 f fd),`(cb Prod.fst),`(cb Prod.snd),`(jV P.unlike),`(pL P step x),`(⟨us,[]⟩),`(Addr×Obj)]
def zZg:ZZ:=#[`(nC _ _ e),`(λ_ q=>q),`(λq=>UC),`(ia P q.1),`(.inr Wc),`(Am P k a b),`(Dp.reads I),`(Except Nat),`(H d=some u),`(I.cell x c),`(Reach ps j),`(Un fs ex H),`(Vals i_ ds),`(by cases q),`(fg S 0 acc),`(hP.same s2),`(lJ A H p i),`(some ZX),`(⟨?_,?_⟩),`(.b9 #[]),`(.inl hy),`(.load t),`(.ref sl),`(Wm ZD),`(ZS Yp),`(Vp Zla),`(s2.at hd),`(wd hd _),`(Hp->Prop),`(PT X a tA),`(SameBut x),`(T.obj _ _),`(bN (Ao K)),`(ia P ss),`(ic R.plan),`(mV (mO K)),`(rv.get hx),`(s.b9 b ps),`(s.seq hx),`(tl y≠[]),`(.b9 ps),`(.own a),`(Cn Z0 _),`(Str×V),`(ZE hz),`(cntK k),`(.cons ?_),`(H b=none),`(I.aC p _),`(List Zid),`(Paired G),`(W XG m'),`(XD p xs),`(aN.mp hx),`(bZ H i.d),`(strSub x),`(wipe σ2),`(xw wf ab),`(V.ref p),`(ZlX H),`(ff::M),`(vE (n:=xs.length) Pv h0 Zya (fun σ H p=>⟨xs,ZfI p,ZA⟩) ZhL hd)]
def zZh:ZZ:=#[`(cellsFrom (s3.heap.objs.size+1) scope.names ZlN),`(Paired (λr (y:Nat×Nat)=>h r=some Zmi) rs),`(∀(s:Shared) (H:Hp) (C:Addr) (cl:Y3) (fp:Zy),PE ZkY elt te),`(∀(s:Shared) (H:Hp) (C:Addr) (cl:Y3) (fp:Zy),zg ZkY ifs tt),`(∀(s:Shared) (H:Hp) (C:Addr) (cl:Y3) (fp:Zy),PG ZkY tg g),`(Paired (λr (n:List Nat)=>H r=some Zfj) rs),`(typeOf Zc1=pure (.type "method_descriptor")),`(Int.ofNat R.plan.steps.length-1),`(λe=>e.name==("can_fill_parts":Str)),`(.builtin "type.__call__" ⟨.ref C::us,kw⟩),`(λw hw=>uO rx fx r fs w Zx0),`((min ZaT W2,max ZaT W2)),`([0,0,2,2,0,0,0,1,2,1,1,2,0,0,0].map V.int),`(ha pos pins s σ H _ I h),`(iu s.heap TI Zkg Zkh (.ref i3)),`(∀b u,h.get? b=some u->h'.get? b=some u),`(List.replicate P.persons.length),`(upd H2 Tp (.tup [aE pe.name,.ref ra])),`((s1.trans s2).trans s3),`(absurd (show false=true from fx) eh),`(ag.of (by rw[h,filter_all,bz];rfl)),`(.Name x pos),`(.Constant .none 0 Zp8),`(Zw "can_be_ended" v_ 14 (zO A)),`(P.persons.map λx=>ZdG),`(bW (BF K rfl) Vo T.xD BM),`(entryTold R.entries),`(List.replicate P.steps.length),`(yz (s:={s with heap:=h'}) e c),`(Obj.putSet dI ZjQ),`(absurd (Or.inl (bx.mp e)) h2),`(zA z TI TO i1 i2 i3 l1 l2 l3),`(vs.toArray.toList.map toV),`(.error (kindB P [k,a,b] rb)),`(Zw "is_person" vY 1 (zN A)),`(eB (hX YZ I.ok.above)),`(hi pins s1 σ H1 _ I1 q1),`(λi x σ H H' hi p y=>?_),`(PySem.W.instObj C),`(upd H3 p (HO.lst [nat x])),`(IsZip s.heap z TI TO .none),`(h2.imp (λh=>bx.mpr h) id),`(s.heap.IsListIter i1 l1 k),`(BindsTo s fd Zf8),`(Ue A ZpY Q E s),`(.bL od (.lst (iv Fl))),`(.tup [.int (i:Nat),x]),`(kvs.map λkv=>kV kv.1),`(ws.map Wh),`(HT.iW xs.length),`(T.b_ "person_roles" ZT),`(bj (uW K) ZR aR Z2),`(keywordEach [] X.env),`(λz=>some (HO.lst z)),`(Sum.inl (s:Int)),`(Result->Shared->Prop),`(upd (U6 p2 Wn) p3),`(.Pass Zp8),`(DZ (tk:=s1.toks) I1 _),`(Heap.SameBut a s.heap),`(PySem.W.CodeHd base c),`(Str->Option NameKind)]
def zZi:ZZ:=#[`(T.b_ "step_roles" ZT),`(bg (WG ZeC cW ZP)),`(de X (compareOp op) r),`(Addr×α),`(PySem.W.plainGet K C),`(de X (compareOp .In)),`(ys.length<=sizeLine),`(⟨_,dj _ rfl,rfl⟩),`(⟨_,vp,rfl,_,rfl⟩),`(Ak K rfl T.uK Zla),`(by simpa using hu),`(PySem.W.hasDictIn K),`(PySem.W.tabIn K),`(s.heap.IsList l2 ys),`(s.heap.IsList l3 us),zz,`(xs.length=zs.length),`(λ_ _ _ _ _=>ZC),`(λ_ _ _ _ _=>VJ),`(P.roles.contains x),`(Vbwbal.needed P ab),`(x<P.persons.length),`((p,w)::P.zip vs),`(aD K (pv 7) rfl),`(λb u q=>cV _ q),`(Nat->Heap->Prop),`(X.A.units+1<cLine),`(ZH dd (.own d)),`(fD (fD s.heap l1)),`(fg S 0 (acc++[c])),`(⟨#[c]⟩),`(.builtin "len"),`(.builtin "sum"),`(.inr (.inr hy)),`(.lst (nats xs)),`(TP X pins σ Q),`(some (.ref r')),`(λe=>gU e.symm),`(h1.symm.trans e),`(T.b_ "mosts" ZT),`(Vbwbal.core P ab),`(Y2 k f fd ps sp),`(behindInMarks op),`(ho pins s1 σ H1),`(textAt R.entries),`(aI (Y8 ?_ ZU)),`(ag.of hR.absent),`(one D.z1.symm),`(.inr (.inr q)),`(A.units+1<cLine),`(Codec.encAll cs),`(Zo x qual st f),`(aF (hS e _ ZU)),`(aI (bc e _ ZU)),`(aj (aj (HC ?_))),`(by rw[fT];omega),`(personNames P),`(text "unlike"),`(some (a:Int)),`(ab.contains x),`(It->Hp->Prop),`(ZeV name X.env)]
def zZj:ZZ:=#[`(e (h1.trans z)),`(eval a X.env),`(h.DictOf ZbD a),`(text "alike"),`(vU s.heap it a),`(Em b o e hx),`(UJ ZC rfl),`(ab.contains y),`(by cases hr),`(λb u e=>?_),`(.type "range"),`(BMain mg base),`(CG P ab s x w),`(dw C H' p i P),`(g (.ref T) σ),`(stepNames P),`(.Name y py),`(Hj d o kvs),`(S.length-1),`(ZH l0 Yh),`(jm P o rooms),`(kJ XM s x),`(mL r ta tb),`(r.length+1),`(cut H' i.aH),`(s6.trans s7),`(AJ I.aC eb),`(Bound K A fs),`(False.elim z),`(T.keep _ _ _),`(Zu value tv),`(Yx x<YE x),`(ZlR (ab++ss)),`(dw C H p i P),`(g x (XX vs)),`(m7 xs.length),`(.bL o ZaC),`(Wd q l c),`(ag.of hR.ib),`(ss.take m),`(⟨a,b,rfl⟩),`(Lf _ _ _ _),`(fW m k led),`(wordsOf l),`(FR KX ar ds),`(Hx ho hd hf),`(I.ok.bs b o),`(Q (.ref d')),`(Txt.split a),`(ZcQ bs H H'),`(iO P ab Zlj),`(lJ A H' p i),`(ok p (σ p)),`(⟨q,rfl⟩),`(.ref YS),`(jJ r m n),`(Str×Addr),`(mF (oQ q)),`(I.ok.has _),`(Well P h v),`(ag.of hl),`(cZ.same s1)]
def zZk:ZZ:=#[`(cq I.ok.oN),`(isPerson R),`(nat x.most),`(readFrom P),`(s3.at bH),`(.dK ZfH),`(.ref i1),`(.ref i2),`(.ref lo),`(.ref lp),`(.type T),`(V.ref a),`(XI Zla),`(XW ZqR),`(UQ Zld),`(aZ 6 nd),`(bo.mp q),`(k H1 s1),`(lP 10 r),`(.str ZiE),`(ag.of bH),`(ag.of dv),`(ag.of jF),`(s1.at hd),`(tq _ _ _),`((c,A.tab)),`(I.list hs),`(List Bool),`(Nat->Za),`(SameBut d),`(V.ref r),`(Vy A.tab),`(absurd h4),`(bQ (j:=1)),`(dw A.plan),`(hg.room x),`(jK A H' d),`(kX P ab),`(mem r' iG),`(oS X id r),`(rQ z hz),`(.ref n),`(Hk K a),`(ZqQ ct),`(ZE ht),`(dS.mp hy),`(eB YZ),`(keep z),`(mask t),`(vs++i_),`(X.gu s H scope (compEnvC scope cl C X.env) fp),`(∀(H':Hp) (l:Addr) (R':Rc) (c7:ZK),Yz k=(some R',c7)->Zak->ZbM j R'->eJ R'->H' l=some Zfq->c7.length<=100001->ZY H'),`(∀b∈ch,(b∈X.ex∨X.gM.heap.objs.size<=b)/\b≠X.env.locals/\(∀x c,X.env.cells.lookup x=some c->c≠b)/\∀p∈X.pn++pins,p.1≠b),`(Txt.join ZnK ys),`(Paired (λ(e:DictEntry) (z:Int×Addr)=>e.hash=hashInt z.1/\(∃t,e.key=.int z.1 t)/\e.val=.ref z.2)),`(Gb (aM Zhn λus s1 ⟨vs,H1,I1,r1,q1⟩=>?_)),`(fits P ab),`(∀D H',H1 D=none->V5->H' D=some (.lst ((zs.filter keep).map f))->Q Vh H'),`(!w.params.followText "set-order"),`(swapsWith value (some (ZcI f pos')) pos.line X.env=pure false),`(propext ⟨λh=>by simpa using cb Array.toList h,λh=>by rw[h]⟩),`(λ_ _ _ _ _=>(i4 2 K rfl (dn (aZ 1 nd) (dn VQ iZ))))]
def zZl:ZZ:=#[`(aa Ym ai),`(mW (az Bq hr rfl (aa (ZgJ Yp (kZ aR) pD) ai))),`(Paired (λr (n:List Nat)=>h r=some Zfj) rs),`(az iK hr rfl (ZL ai)),`(.ins A.entry dx (mn (.int 0) ZdM XZ Z6)),`(.ins A.entry dx (mn Vt (nat en) XZ ZX)),`(aF ⟨r,i,j,R.plan,R.absent,ZD,x,rfl,cZ,_,rfl,?_⟩),`(⟨(by rw[hsz];decide),λq hq=>?_⟩),`(sJ CX P w K mg base N qual scope f),`(w++[(s,x)]),`(λ_ _ z=>nomatch z),`(λy=>(Wv (c8 (w++[(st,y)])) U c).isSome),`(∀vs H Q E,Zdw->vs.length=ps.length),`(⟨rs,X0 h1,gA (λ_ _ e=>X0 e) h2⟩),`(Sum.inl (st:Int)),`(.lst (nats ((List.range m).flatMap tl))),`(λi x z H' Tp hx hz s1 hT R S bc hS=>?_),`(upd H4 i.en (.lst (refs zs++[.ref e]))),`(some (.builtin "object.__setattr__")),`(λe=>(Zdj w).is (k:Int) e.2),`(∀b o,NF o->H b=some o->H' b=some o),`(ak (ay (bh (aa (bE T.Nd rfl) ai)))),`(eB (hX YZ (I.ok.BJ x c j4 hc))),`(⟨σ',_,Zwm,q⟩),`(eZ (λx:Vbwbal.Person=>x.most != 99)),`(λb ps e=>⟨#[],by rw[e];simp⟩),`(.tup [nat p.1,nat p.2]),`(Option (Value×Nat)->Shared->Prop),`(PySem.W.codeIn K aG),`(aa (ZgJ ZC (kZ aR) pD) ai),`(∀i σ H,i<=xs.length->X9->YJ),`(ZH i.ab (.lst (kO R.plan ab'))),`(.Assign [ZcI f pos'] value pos),`(Zw "present_persons" y_ 1 (C2 A)),`(.lst (l.map aE)),`(P.persons.map λx=>Zkc),`(PyFlat.played VbwbalNeutral.step),`(Q Z6 (Wy p (.lst [.int z]))),`(Yt (f Zcd (.int j u)) Q E s),`(gI X.env.cells scope.names []),`(⟨_,_,_,hd,T.BK,n3,_,NP _,?_⟩),`(⟨rs++[t1],?_,qo q (d_ ht AR)⟩),`(Sum.inl ((g.1|||sh:Nat):Int)),`(canEnd P),`(.lst ((stepNames P).map aE)),`(V->Vd->Vd->Hp->VK->Prop),`(ZcL (mX (.ref oZ) (.ref r4))),`(aeI (h₀:=X.base) I.ok.mod.xM),`(k b o (λz=>hc (by simp[z])) e),`(nr s₁.heap),`(P.steps.map λx=>ZdG),`(qi Ct Zky Pq (afU _ _)),`(amendments R.entries),`(cH (m|||1<<<k) led),`((cH m Zk6).fits es.size=true),`(I.base.keep b o e n hb hx),`(I.laid (a:=s.heap.objs.size)),`(wA P w K mg base A outer s H),`(I1.qg hle (I1.aC.fresh hle)),`(Txt.join Zyn),`(az sE hr rfl (aa ZeC ai)),`(by rw[tY,hsz];omega)]
def zZm:ZZ:=#[`(by show 2<=sizeLine;decide),`(cellsFrom h.objs.size names),`(k H1 rb0 s1 (λ_ _ _=>hrb0)),`(rooms x-(q.1.length:Int)),`(.Compare a [op] [b] pos),`(occurrences x y 0 x.length),`(λi x z H H' hz s y=>?_),`(((w.map Zg)++s::r).Nodup),`(.tup [nat y.1,nat y.2]),`(Zw "bar_of" zd 15 (C9 A)),`(Zw "is_step" zb 1 (C5 A)),`(Zw "room_of" y9 1 (C1 A)),`(YY x-(q.1.length:Int)),`(bZ.k (k:=Sum.inr "after")),`(cellsFrom YS scope.names),`(w.params.setOrder a ep),`(λ_ _ _ _ _=>(aZ 5 nd)),`(λc v hc q=>k c v ?_ q),`(Builtin.Str.spaceWords a),`(I1.kept (t':=s1.toks) hk),`(Zw "choices_of" zc 2 C6),`(az p_ hr rfl (ZL ai)),`(behind P o step x),`(by rw[aq,aq,du gR,aq]),`(dq K dE Ga Oz (Ep K) Ym),`(hl i σ _ (iP hi)),`(je _ (je _ (KU hb e))),`(s.heap.Ns X.env.locals m),`(⟨[.type "set",a],[]⟩),`(Zw "can_fill_parts" vZ),`(Zw "share_any" y8 1 C0),`(Wv q (w.map Zg++rest)),`(aN.mpr ⟨p,hp,rfl⟩),`(de X (compareOp .NotEq)),`(de X (compareOp .NotIn)),`(hi pins s σ H _ I h),`(jL (fs.lookup f) (mA f)),`(s.heap.FunFrames X.base),`(λi=>bs.getD i false),`(λz=>hb (by simp[z])),`(⟨_,dj _ rfl,rfl,?_⟩),`(by rw[sz];decide),`(⟨Zh,Zh,λw hw=>?_⟩),`((zs.take m).map Z1),`(.lst (nY.map V.int)),`(Dw.readsAll aC KX ds _),`(Km P wf rb a b c ij hn),`(V->V->Hp->VK->Prop),`(Zw "partners" za 1 C3),`(ZcI name apos),`(Yr q2 (.lst (iv tx))),`(ZhM s.heap.objs.size),`(sliceBounds lo hi none),`(.Attribute e f pos),`(I.mod.glob.keeps I.bk),`(PySem.W.methodObj Yo),`(X.mg "enumerate"=none),`(lS (eE cS Zbk aR ZP)),`(ly.nodup_iff.mp ok.nd),`(tj (Ex I hg hm ?_ j5)),`(∃u,h'.get? e=some u),`(⟨w.toArray⟩)]
def zZn:ZZ:=#[`(xC c _ q Zlk),`(.builtin "sorted"),`(.inl ⟨_,Xe,rfl⟩),`(.lst (z.2.map aE)),`(Bool->Shared->Prop),`(Ze->Hp->VK->Prop),`(ah YT (cut H3 i.aH)),`(aj (CA ho hd Zh ?_)),`(bw (ps.take i) st),`(de X (binaryOp .Add)),`(jl hu Yp ZG Z2),`(upd H4 rd (.own r)),`((jQ o xs).take m),`((km o ss).take m),`(I.laid (t':=s.toks)),`(Nat->Option Choice),`(OR X pins σ tg R),`(PySem.W.plainOver K),`(aF (hS e _ (a0 hT))),`(aI (bc e _ (a0 hT))),`(absurd h2 (lP 32 r)),`(bits b ^^^ bits a),`(by simpa using e),`(by simpa using h1),`(by simpa using h2),`(rule i j t t' s _ _),`(t.fits es.size=true),`(ue P ab Zbp (zD wf)),`(λ_ _ _ _ _=>YB),`(λi=>rs.getD i 0),`(.lst (nats q.1)),`(.lst (nats q.2)),`(.lst (nats z.2)),`(Dp.readsAll I ds _),`(HO.ins A.record dx),`(PyFlat.calls shape),`(Str.ofString ""),`(Sum.inl (m:Int)),`(Sum.inl (p.1:Int)),`(T.jW "numbers" ZT),`(V->Hp->VK->Prop),`(X.A.units+64<cLine),`(ZbK dd (mq .ba)),`(e=x∨H e=some ZbH),`(eval iter X.env),`(p1 (p1 (p1 Zdb))),`(α->Shared->Prop),`(λ_ _ q=>cV _ q),`(λx1 x2=>x1++x2),`(λx=>x.1.isSome),`(⟨σ',H',I.nQ,q⟩),`((UW c).take m),`(.builtin "all"),`(.builtin "any"),`(.builtin "min"),`(.lst (iv nums)),`(.lst (refs ys)),`(Ho l c t m n nums),`(K9 (n:=zs.length)),`(PyFlat.call shape),`(PySem.W.makesIn K),`(T.KN "record" ZT)]
def zZo:ZZ:=#[`(T.ko "person" ZT),`(T.ko "target" ZT),`(Value.int (k:Int)),`(W 0 m (Yr D Yh)),`(Yr pd (.own p)),`(Wd (c8 w) U c),`(Vs items.size),`(aj (HG ho hd ?_)),`(apart ok.nd hq hr),`(by simpa using h),`(jL.some_of (v:=v)),`(k H3 rb0 Zhs hrb0),`(kU ok (ps++[p]) m),`(λe=>aK e.symm),`(⟨_,λ_ _=>di⟩),`(.cons ru .nil),`(.int (val i:Int)),`(.lst (nats R)),`(.lst (nats t)),`(.lst [nat st]),`(Gl X "enumerate"),`(HT.iW its.length),`(aa ZcE ai),`(absurd (bx.mp e)),`(ha pins s1 σ H1),`(one D.F8.symm),`(one D.F9.symm),`(one D.F_.symm),`(one D.wH.symm),`(one D.z2.symm),`(one D.z3.symm),`(seqIndex_neg Zb),`(tupleKind ZbD),`(∀x,0<=rooms x),`((tl x).drop i),`(.inr (.inl z)),`(.inr (.inr z)),`(AllBare s'.gens),`(At x y x.length),`(Cv s.heap l1 l2),`(I.laid (t':=tk)),`(I.ok.Aq b o e),`(Int->Int->Int),`(Nu wf _ Zk _ h),`(PySem.Within mA),`(T.jW "text" ZT),`(T.ko "text" ZT),`(X.mg "zip"=none),`(aD K YB rfl),`(ag.of hP.roles),`(bJ (λs=>2 ^ s)),`(by rw[bb];omega),`(h.get? b=some o),`(h.objs.size<=a),`(mP.foldl ZeF f),`(nats (e_ rs)),`(some (c:Int)),`(some (k:Int)),`(ss.foldl ZeF f),`(vals.map toV),`(ws.getD k []),`(λ_ _ _ e=>e)]
def zZp:ZZ:=#[`(⟨ZE h1,h2⟩),`(.cons (.int _)),`(CX outer H s E),`(FQ sL sT h2),`(St->Hp->Prop),`(W.item i s _ _),`(Zeu x.toNat),`(ZhA z.toNat),`(Vm p.1 p.2),`(Z4 ZR Z0),`(ZaU ZC Z2),`(ag.of yo.steps),`(bE T.Nf rfl),`(bE T.Ng rfl),`(bE T.Nj rfl),`(bs.map V.bl),`(ch∈subsets l),`(entryFor table),`(fs.length<1000),`(gI cells names),`(one (oR cE)),`(rA T.FE rfl),`(rA T.FF rfl),`(seqIndex_of h0),`(λxs e=>ZbA),`(⟨L,hL,rfl⟩),`(.dK (xr i)),`(.ins A.record),`(.lst (f z)),`(Mu P ab c w s),`(Pg K a b c),`(V->Hp->Prop),`(ZlC qual=true),`(X0 h.persons),`(Z8 (WE Yh)),`(absurd Zh h2),`(absurd c2 Zh),`(bZ.k (k:=Zlo)),`(c++[(t,y)]),`(cD.trans s4),`(canEnd R.plan),`(codeAmong pos),`(hr.mono hk),`(isName w=true),`(l.insertIdx p),`(lV (ZW s)),`(l[i]? =some x),`(less rooms x),`(more σ p s),`(oo pm c fB),`(pyNext Wq),`(qx.k (k:=Zlo)),`(s1.trans s3),`(s5.free jZ),`(setItem ov iv),`(signer (y::r)),`(start N vs),`(λ_ _ e=>e),`(λm hm=>?_),`(λp hp=>?_),`(⟨0,0,0,0⟩),`(x.length+1)]
def zZq:ZZ:=#[`(⟨b,rfl,?_⟩),`(.ins A.entry),`(.int room),`(Fr M M' H H'),`(H a=some YA),`(H a=some Zbn),`(H p=some Yw),`(H q=some ZlI),`(Tab H' A.tab),`(Tab H1 A.tab),`(Txt.words a),`(Zch h.unlike),`(Va X.env),`(Zbi Yo=true),`(YM dx ZbH),`(Zca dx []),`(aL (aL h)),`(aa WU ai),`(aa cW Xm),`(absurd m Zh),`(bare Zk Zk),`(bindC kindOf),`(bindL kindOf),`(by rw[ha]),`(c.enc a.1),`(cut H1 i.aH),`(dn VM iZ),`(eval e env),`(fD (fD h l1)),`(findIn K WY),`(h w (ZE hw)),`(h1 pins s σ),`(iM.take m),`(jT.trans s5),`(ks.map kV),`(nat places),`(n<=sizeLine),`(ok.Kj q hq y),`(tn i s'.heap),`(λH p=>?_),`(λx=>!x.1),`(λy=>y==x),`(PySem.W.fnOf x qual (vG st) (oK st) Zd7 .none kV doc pm an aG),`(Wk Zc4 aR Z2),`(I.step (g':=s.gens) (d':=s.drawn) (ch:=ch) (λb hb=>⟨(hf b hb).2.2.2.1,(hf b hb).2.1,(hf b hb).2.2.2.2.1,(hf b hb).2.2.2.2.2⟩) (λb o _ _ hc e _=>k b o hc e) (λb o _ _ hc e _=>⟨o.slots,k b o hc e⟩)),`(⟨a,rfl,UD,gH W8 Pv ((Zi _).mpr ⟨none,rfl,ZU,λss hs=>by simp at hs⟩) (λi σ H' _ hv=>let⟨_,_,s4,_⟩:=(Zi _).mp hv;ag.of (s4.at ha)) ?_ ?_⟩),`(I1.laid (t':=tk) (a:=h'.objs.size) (o:=Ez h'.objs.size Zt1 c' fB) (h':=h'.push Zew) Ziy ZA (abD e1)),`(∀(i:Nat) x σ H,xs[i]? =some x->X9->g x σ H fun σ2 H2=>tb {D with nx:=Pv (i+1),ct:=Pv (i+1),bk:=D.nx} σ2 H2),`(λx xs H Q=>∃a b,x=.str a/\xs=[.str b]/\(b.length==0)=false/\a.length+2<=sizeLine/\Ac (ZjW b) H Q),`(bg (PW.pt (pB ZsD Zr3)) U9 bp),`(λb ob hb q=>(sb.2 b ZmN).trans (hk b ob ZmN ZmN q)),`(⟨hc.1,Mt w c hw (λp hp=>hs p.1 (mz _ ZmG)) kF.1 (λhm=>(kF.2.2 s hm s aY) rfl) hc.2⟩),`(⟨λb o e n hb hx=>?_,λb o e n hb hx=>?_,I.base.free,λb o e hx=>?_,I.base.o9,I.base.ny,I.base.pb⟩),`(aM (h pos pins s σ H _ I hq) λus s1 ⟨xs,H1,I1,r,z,q⟩=>⟨by rw[←r.length];exact z,?_⟩),`(⟨Zk,(by show(1 :Nat)<1000;decide),(by show(2 :Nat)<1000;decide),(by show(3 :Nat)<1000;decide),k⟩),`(az dZ hr rfl (aa (az sF hr rfl (X2 ai)) ai)),`(⟨r,i,j,R.plan,R.absent,ZD,rfl,cZ,wr.wf,λH1 u1 s1 _ AO=>⟨_,.inl ⟨_,ag.of AO,rfl⟩,?_⟩⟩),`(hk d o (λq'=>hb (by simp only[aJ,mw,lU]at q'⊢;rcases q' with q'|q'|q'|q'|q'<;>simp[q'])) q),`(compEnvC scope (Zmo ZlN) s.heap.objs.size),`(AA hlen keep f (λi H hi s=>?_) (λH s=>⟨xs,ZgM,Zb⟩) Zmg q),`(.inl ⟨_,ag.of hR.plan.persons,(aq _).symm⟩),`(Ey (zs:=List.range P.persons.length) ZiU (by rw[Om,eM]) (by rw[eM];omega))]
def zZr:ZZ:=#[`(fh "absent" (V.ref p2) [("plan",Zg6)]),`(∀whole,isTrue a X.env whole=(do let v←whole;standAt a.pos;holding [v] (truthy v))),`(λx xs H Q=>∃a,x=.str a/\xs=[]/\a.length+2<=sizeLine/\Ac Zqk H Q),`(Oh ha hb I h λv u s2 x y H2 I2 rx ry q=>ho pins s2 σ H2 x y v u Q I2 rx ry q),`(by obtain⟨o',lG,mm,kD,r'⟩:=hm;rw[ho]at kD;cases kD;exact⟨_,lG,mm,hL,r'⟩),`(λv s₁=>Yt (eval b X.env) (λu s₂=>Yt (f v u) Q X.xe s₂) X.xe s₁),`(∀v u s2 x y H2,ZQ H2 s2->W0->XB->R x y H2->Yt (f v u) Q X.xe s2),`(K8 (x:=Zm9) (by show w.toArray.size<=16777000;simp;omega) Y9),`(SameBut.unlock (od:=od) ⟨λb o' hb t e=>?_,λb ps e=>?_,λPt h=>?_⟩ hd),`(aM Zhn λus s1 ⟨vs,H1,I1,r1,q1⟩=>hc pins s1 σ H1 vs us Q I1 r1 q1),`(Vbwbal.listed ((List.range R.plan.persons.length).filter λx=>Zeu x==0)),`(⟨λz hz=>?_,λa b dc y ha hb=>?_,λa b dc y y' ha hb=>?_,λy=>?_⟩),`(I.turned (λb o hb e=>kk b o (by simpa using hb) e) f0 f1 f3 f4 f5),`(PySem.W.fnOf name qual params body scope dV kV doc pm an aG ct),`(nat ((XC (match kv.1 with | .inl n=>n.toNat| .inr _=>0)).getD 0)),`(λb o hb e=>(sb.2 b hb).trans e),`(.ins A.call dx (qj (nat m) (.ref nl) (.ref tl) ZqJ)),`(I.step (g':=s.gens) (d':=s.drawn)),`(⟨.int xs.length,H,YL,⟨_,by simp only[dR];rw[hlen]⟩,q⟩),`(YF (Builtin.SmallTypes.ownedTupleIsFree Zdp>>= _) _ _ _),`(call_meetsIn aeK dd.typeIs PySem.F.entry_dict_get (asj _ _ _)),`(compPost Yd X.A X.xe use Qf Vh),`(upd (U5 q (.lst [nat x])) p (.lst (nats ch++[nat x]))),`(⟨r,i,j,R.plan,R.absent,ZD,rfl,cZ,wr.wf,wr.wc,λH1 s1=>Yu⟩),`(j_ h' s.heap.objs.size es ep (cH Zog Zeo)),`(upd H7 l8 (.lst (nats (ln pe.name)++nats (ln pe.roles)))),`(⟨λp hp=>?_,λs t h1 h2 h3=>?_,λs t h1 h2 h3=>?_,λy=>?_⟩),`(⟨ho,λu' Lo=>uO ry fy rv yL u' (by simpa using Lo),?_⟩),`((Obj.mapFields (·.setIfInBounds 1 Zxr))),`(k H true ZfX ⟨λ_=>sat_empty P _ gm,λ_=>rfl⟩),`(∀h',Heap.ExtBut it s.heap h'->Q none {s with heap:=h'}),`(⟨_,x,rfl,X4,rfl,λys hy=>ZvN⟩),`(⟨rs,by rw[h.lists _ _ e,e2],gA (λ_ _ z=>(dQ z).1) q⟩),`(λkv=>if kv.1=Sum.inl (m:Int)then(kv.1,nat v)else kv),`(⟨rfl,Zey (λb ob hb e=>eb b ob hb e) f0 f1 f3 f4 f5⟩),`(aM (hc pins s σ H _ I h) λd s1 ⟨H1,I1,q1⟩=>?_),`(∀b o,b∉ch->s.heap.get? b=some o->h'.get? b=some o),`(absurd (show p∈([]:List Zf9)++[]from hp) Zh),`(⟨_,rfl,agc (s:={s with heap:=h'}) z' λjH Ht sb=>?_⟩),`(⟨rfl,Zey (λb o hb q=>eb b o hb q) f0 f1 f3 f4 f5⟩),`(.ListComp elt [⟨target,iter,ifs,0⟩] scope pos),`(Zey (λb ob hb e=>(sb.2 b hb).trans e) f0 f1 f3 f4 f5),`(aM Zhn λus s1 ⟨vs,H1,I1,r,q⟩=>⟨I1.kr,?_⟩),`(YF (Builtin.SmallTypes.nextOf Zkg>>= _) _ _ _),`(aj (nO hz rfl (x:=.ref TI) rfl (aj (s_ dY rfl ?_)))),`(bJ (λs=>if g.1&&& s=0/\g.1|||s=m then g.2 else 0)),`(⟨r,i,j,P,ab,c,rfl,hR,wf,wc,λH1 d1 s1 anw vt=>?_⟩),`(pushCells (s.heap.push {cls:=Zax,data:=.dict #[]})),`(.lst [nat (eK z.2),nat (eT z.2),nat (eP z.2)]),`(∀b u,b≠e->h.get? b=some u->h'.get? b=some u),`(by rw[aq];exact h1),`(⟨r,i,j,P,ab,c,rfl,XA,wf,λH2 u s2 hu0 hu=>?_⟩),`(AB (l:=[(a,t)]) (ys:=ZjW b) (k:=s.toks)),`(i4 2 K rfl (dn (aZ 5 nd) (dn Zkp iZ))),`(kvs.map λkv=>if kv.1=k then(kv.1,y)else kv),`(pA (eR (Z4 (az mh hr rfl (ZL X7)) Z0))),`(Builtin.«zip.__next__» ⟨[.ref z],[]⟩),`(T8 (aaw hu (bj (uW K) ZG aR Z2) ZC) rfl),`(λi=>((iB X.w p ep es)[i]?.map Zg).getD 0),`(∀b o,b≠a->NT o->H b=some o->H' b=some o),`(∀b u,s.heap.get? b=some u->h'.get? b=some u),`(upd H3 Tp (.tup [aE pe.name,nat pe.most]))]
def zZs:ZZ:=#[`(⟨its.toList,o,n,hv,KX _ _ e,hc,by simp[hd]⟩),`(Heap.IsList (Shared.heap ⟨hp,g,d,tk,os⟩)),`(Yr fo (.lst (rf.map V.ref++rl.map V.ref))),`(aj (Hy (aj (nO hz rfl (x:=.ref TO) rfl ?_)))),`(az qa hr rfl (aa (Uc Ym cW Z2) X7)),`(show s.heap.IsTuple a its.toArray from p),`(λi v=>∃e,(VP es)[i]? =some e/\v=e.2),`(λx=>[text "most",x.name,decimal x.most]),`(.lst [.str "step",aE pe.name,.str "by"]),`(I1.laid (t':=s1.toks) (λb u e=>XY) ZA ?_),`(vE (n:=xs.length) Pv h0 Zya),`(λi h=>h.IsKeyIter it d i kvs.length ep),`(⟨⟨.none,he⟩,hit,Nat.succ_ne_self _⟩),`(.Call ZwJ [e] [] pos),`(IsZip h' z TI TO (rawInt s.heap.objs.size)),`(Paired (λr (p:Nat×Nat)=>H r=some ZlA) rs),`(aM (ha pins s σ H Q I h) λc s1 e=>?_),`(aao rfl T.KI (aa (XI (aa ZcT ai)) ai)),`(absurd (show b∈([]:List Addr)from z) Zh),`(swapsWith e (some (Zeb pos')) pos.line),`(λh' c' kp e=>fin its r' hz h' c' kp e),`(⟨y.1,Or.inr (by rw[←e];exact hy),e2⟩),`(⟨y.2,Or.inl (by rw[←e];exact hy),e2⟩),`((text "step"::n::text "by"::l).map aE),`(.inl ⟨_,ag.of gX.persons,(aq _).symm⟩),`(Kb (ep:=ep+1) (es:=dI) (t:=ZjQ) dI),`(aM VA λv s1 ⟨x,H1,I1,r1,q1⟩=>?_),`(aM Zae λv s1 ⟨x,H1,I1,r1,q1⟩=>?_),`(aM ZcC λv s1 ⟨x,H1,I1,r1,q1⟩=>?_),`(eR (Z4 (az qb hr rfl (ZL Xm)) Z0)),`(eR (Z4 (az yH hr rfl (ZL Xm)) Z0)),`(nM X.prog X.w X.K X.mg X.base x C ps k sp),`(wpAny_loadName_cell I.ok.kind hk hc hcell),`((hk s).mpr (EX s ((kx _ _ s).mp h2))),`((hk t).mpr (EX t ((kx _ _ t).mp h3))),`(Zfk XJ (by rw[bH,Ax]) (by rw[Ay];omega)),`(attributeBase e f X.env Yv=eval e X.env),`(cR lg Zq3 (az dZ hr rfl (aa ZG ai))),`(eO ((Sum.inl (z.1:Int),nat z.2)::cntK r)),`(kc _ _ (Kz (by show(4 :Nat)≠1;decide))),`(.Call (.Name "zip" p) [e,e2] [] pos),`(Xb H λx H1=>tb σ H1 λy H2=>R x y H2),`(aI ⟨_,.inl ⟨_,ZdJ,rfl⟩,?_⟩),`(abn (by rw[CF dB];exact cq (ase ds) z2)),`(k _ (by rw[c1];exact ZU) ⟨_,q1,?_⟩),`(λx=>hc (by rw[x];exact bo.mpr rfl)),`(∀{a:Addr} {xs:Ze},YJ->ag K H' a xs),`(∀{a:Addr} {xs:Ze},VL->bM K H' a xs),`((p.1,p.2.filter λx=>!(xs.contains x))),`(.AugAssign (Zeb pos') op e pos),`(Builtin.Str.occurrences a b 0 a.length),`(aj (nO hz rfl (x:=.bool false) rfl ?_)),`(aj (show YC (pure ()) _ E s from Ys)),`(by rw[ax (λe=>xV e.symm)];exact I.ins),`(envOfC qual Zd7 s.heap.objs.size f),`(gC.mpr (.inl (by rw[ea];exact dc))),`(gC.mpr (.inr (by rw[eb];exact dc))),`(seqObj "list" acc.toList.toArray 0),`(upd H5 Tp (.tup [nat z.1,nat z.2])),`(λ(z:Int)=>VbwbalNeutral.whole64 z),`(∀b o,ND o->H b=some o->H' b=some o),`(⟨o1,e1,λv q=>by rw[d1]at q;cases q⟩)]
def zZt:ZZ:=#[`(⟨o2,e2,λv q=>by rw[d2]at q;cases q⟩),`(aI (Y8 (by rw[bt,af (.inl he)]) ZU)),`(aI (Y8 (by rw[bt,af (.inr hf)]) ZU)),`(ab0 hl.isList λs₂ e2 st aK=>?_),`(aj (nO hz rfl (x:=.none) rfl (aL ?_))),`(gC.mpr (.inl (by rw[←es];exact h1))),`(gC.mpr (.inr (by rw[←et];exact h1))),`(s.at (λq=>by rw[q,hx]at e;cases e) e),`(upd H3 Tp (.tup [nat m,.ref z.1])),`(λm v z H' hv hz s2 R S bc hS=>?_),`(λm v z H' hv hz s3 R S bc hS=>?_),`(⟨.str _,H,I.tok k,⟨t',rfl⟩,h⟩),`(Ef q (by rw[bt,he];rfl) sc oG PQ),`(List.range R.plan.persons.length),`(aM VA λc s1 ⟨H1,I1,q1⟩=>?_),`(absurd (Value.type.inj (De q).1) Zk),`(compEnvC scope Zha s3.heap.objs.size),`(sL.keep _ _ hb t (s1.keep _ _ t e)),`(show¬(ws.length:Int)=3 by omega),`(λ_ s'=>∃σ' H',Zbg/\Q σ' H'),`(∀b xs,H b=some Vj->H' b=some Vj),`((cH (m|||1<<<x) led,Array.range Zah)),`(.inl ⟨_,ag.of jY,by rw[gG];rfl⟩),`(.lst [.str "person",aE pe.name]),`(NQ I (by rw[e];exact True.intro) hs),`(Zim "can_fill_parts"=some Zkz),`(Z4 (az mi hr rfl (ZL ai)) Z0),`(i4 2 K rfl (dn VJ ZqA)),`(s2.tab Pt (sL.tab Pt (s1.tab Pt h))),`(show cB G6 (aA xa) _ _ from Yf),`(show cB OZ (aA zV) _ _ from Yf),`(show∃t,u=Value.int i t from r),`(show∃t,u=Value.str x t from r),`(∀t∈(w.map Zg)++s::r,ZW t=none),`(⟨P.persons.length,Zq8,Zb,Zb,?_⟩),`(PySem.W.KdlSrc prog w T r d n P OK),`(az FA hr rfl (ZL Zqs)),`(dU (WK ZC (aa Zkm ai))),`(el λj=>if j=k then t else f j),`(gc K "Record" "Record.__init__" DK),`(inl ps nh (by rw[kL];exact es)),`(inl pt xZ (by rw[oI];exact et)),`(show(ws.length:Int)=3 by omega),`(upd H0 l (.lst (nats a++nats b))),`(yz (s:={s with heap:=h',toks:=tk})),`(λH p=>⟨xs,p.1.seq hx,Zb⟩),`(λb o hc e=>⟨o,k b o hc e⟩),`(λi h=>h.IsStrIter it ty x t i),`(⟨rs,UY,gA (λ_ _ e=>s.at e) h2⟩),`(.BoolOp .And (a::b::rest) pos),`(.lst ((personNames P).map aE)),`(λB outer s H vs Q E hr h=>?_),`(⟨rs,e,gA (λ_ _ z=>s.at z) q⟩),`((X.mg "__name__").getD .none),`((text "person"::n::l).map aE),`(.Assign [Zeb pos'] e pos),`(.BoolOp .Or (a::b::rest) pos),`(.Compare a [op,uG] [b,c] pos),`(ZH i.en (.lst (xs++[.ref e]))),`(ZcL (mX (.ref ls) Zkj)),`(ZaF (setNext a sl i ep) Q' Zfb s),`(bT (show h.get? a=some _ from x))]
def zZu:ZZ:=#[`(bg (eR (Z4 ZC Z0)) Uw bp),`(gc K "Entry" "Entry.__init__" DN),`(λi c H' hc s1 R S bc hS=>?_),`(⟨H,YL,by rw[ab5 r];exact q⟩),`(⟨Zh,by simp;omega,λw hw=>?_⟩),`(⟨e,ZrY,vs,qG h2,_,e,rfl,_,rfl⟩),`((kx _ _ s).mpr (vd s h2 es)),`((kx _ _ t).mpr (vd t h3 et)),`(.Assign [.Name y py] Zcw CW),`(.Call (Zeb p) [] [] pos),`(.lst [nat (Wm ZD).length]),`(Zo "answers" "answers" z0 f fd),`(Zbj "Entry" A.entry zf 1 (IE A)),`(Vl (storeName X.env x u) Q E s),`(Zrr (ch:=[]) (λ_ z=>nomatch z)),`(k H6 q (cG.trans gz) (gz.at eS)),`(s.heap.push PySem.W.emptyDict),`(⟨x3,dx,_,_,_,_,rfl,au,rfl,?_⟩),`(.BoolOp .And (b::rest) pos),`(.tup [nat z.2.1,nat z.2.2]),`(.tuple [.int p.1,.int p.2]),`(Int.ofNat R.entries.length),`(Inv X pins (σ.set i VU) H s'),`(P.persons.map λx=>x.roles),`(Un (nz X.stack) ch H H' s.heap),`(Zw "is_signature" B2 1 (IA A)),`(Zw "unlike_steps" BU 2 (Iq A)),`(Zmw (decide (rooms x-1=0))),`(e8 (zs:=ws) Xe X3 Zb Y9),`(gc K "Call" "Call.__init__" DP),`(gc K "Desk" "Desk.__init__" DO),`(gc K "Part" "Part.__init__" DM),`(gc K "Plan" "Plan.__init__" DL),`(h'.IsListIter s.heap.objs.size),`(λx H' hx s1 R S bc hS=>?_),`(⟨dx,_,h2,by rw[h1];exact aY⟩),`((stepNames P).contains a=true),`((stepNames P).contains b=true),`(.BoolOp .Or (b::rest) pos),`(PySem.W.CodeHd X.base c A.tab),`(Str.ofString "0123456789"),`(Zw "told_before" BV 1 (Ir A)),`(ZH p (.lst (xs.set j v))),`(Y8 (by rw[bt,he];rfl) s1),`(Zbj "Part" A.part ze 1 (C4 A)),`(ZhX xs.length hi-ZhX 0 lo),`(abA (n:=P.persons.length) Zb),`(aj (Cz hz Zh λg1 fF s1=>?_)),`(comprehension Zcw scope X.env),`(fh "entries" (V.ref p3) Zra),`(h y (Ec.mpr ⟨hy,h1,h2⟩)),`(ie hl hd (by intro z;cases z)),`(subscriptTail_builtinR (x:=w)),`(upd H6 q (.lst [.ref lo])),`(zs.filter λz=>!cI z.2 gx),`(λv H2=>v=.ba /\Q Zf2 H2),`(⟨⟨o,e,ex.1⟩,λa e2=>?_⟩),`((recsOf q).find? Zhi=some dr),`(.Call (Zar p) ZbZ [] pos),`(.inl (.inr ⟨o,s0 _ _ h⟩)),`(P.steps.map λx=>x.roles),`(PassesOwn Yd X.A X.env X.xe)]
def zZv:ZZ:=#[`(Zw "role_names" BW 1 (Iu A)),`(YF (field Zdp 2>>= _) _ _ _),`(YF (field Zdp 3>>= _) _ _ _),`(az qd hr rfl (aa Zbd ai)),`(by simp only[dR]<;>omega),`(hc pins s3 σ H3 _ I3 q3),`(he pins s1 σ H1 _ I1 q1),`(hf v u s2 x y H2 I2 r1 r2 q2),`(hs i x σ _ (y xs (Zmz p)) p),`(iu h' s.heap.objs.size x y u),`(s.heap.IsKeyIter it d i n ep),`(⟨by rw[aq,eM],λb hb=>ZyP⟩),`(⟨z.1,ht _ _ z.2.1,z.2.2⟩),`(Call_ (ZfB aed (Zk3 hs cC))),`(Paired (jc H) (Vm Zh2 Yl)),`(Value.ref YS::(us++ds)),`(Vbwbal.listed (Zl0 z.toNat)),`(Zw "goes_with" B4 3 (IC A)),`(Zw "put_entry" BX 1 (Iv A)),`(bV (s2.trans gz) hl (gf e1)),`(by simpa using λq=>UC),`(hb wh pins s1 σ H1 Q I1 q1),`(r.foldl (λa x=>a++(32::x))),`(⟨[],au,rfl,λz hz=>VG⟩),`(⟨n-(i+1),Zb,rfl,bG,p'⟩),`(⟨x,dx,_,_,rfl,au,rfl,?_⟩),`((List.range n).map val),`((cn.take m).foldl G []),`(.tup [nat XH,.ref ra]),`(IJ (id:="object.__init__")),`(X.gM.heap.FunFrames X.base),`(Yt (eval Zhv X.env) Q E s),`(ZH T (.tup [nat i,x])),`(aF (low.resolve_right Zb)),`(ak (ay (bE T.ac8 rfl))),`(ak (ay (bE T.ada rfl))),`(az yC hr rfl (ZL X7)),`(by rw[I.rM hl iH];exact hx),`(by rw[I.rM hl m_];exact hy),`(by rw[I.rM hy hq];exact hx),`(completion R.plan R.absent),`(fO.same s4 ⟨kvs,jD,sj⟩),`(h (by rw[bo.mp q];exact m)),`(kD pins s4 σ H4 y z' u w'),`(oW K (.str Zm9) H w.length),`(some ((p::r.take n)::xs,t)),`(⟨dd.typeIs,λb q=>?_,hd⟩),`(⟨⟨jt,hc.1,hc.2⟩,h⟩),`((isName a&&isName b)=true),`(.lst (Zhq (V.bl false))),`(Bool.and_eq_true_iff.mp p),`(HO.lst (x_1++[nat x])),`(Heap.SameBut it s.heap h'),`(List Key×Addr×Value),`(X.env.qual++"<lambda>"=rP),`(Zw "pair_of" BY 1 (Iw A)),`(Zrv s3.heap.objs.size),`(ak (ay (bE T.Nc rfl))),`(cb (λl=>some (HO.lst l))),`(iP (x.above y c (kP h))),`(lZ rooms x q.1.length),`(s.heap.IsListIter i2 l2 k)]
def zZw:ZZ:=#[`(s.heap.IsListIter i3 l3 k),`(s.heap.IsSliceOf sl vl vu),`(λp hp=>hq p (ZE hp)),`(⟨Ci λi=>?_,Ci λi=>?_⟩),`(⟨_,UP,_,g0,eQ _ _,?_⟩),`(⟨_,dY,λv q=>nomatch q⟩),`(⟨_,fJ,λv q=>nomatch q⟩),`(⟨_,hz,λv q=>nomatch q⟩),`(⟨a::A,aY ..,λb hb=>?_⟩),`(.Slice lo hi none p2),`(.builtin "set.__new__"),`(.lst (nats (e_ ZhW))),`(I2.unlock e (I.Ap hd mu)),`(Inv (X.lL E) pins σ H s),`(Nat.pow_le_pow_right Zk),`(Q (nat R.entries.length)),`(Sum.inl (bits Z7:Int)),`(Zw "amends" B7 1 (IH A)),`(Zw "may_do" BZ 1 (Iy A)),`(Zli aG A outer s H E),`(Wv (c8 (w++[(st,x)])) U),`(aj (aL (wpAny_throw ?_))),`(argsOk "object.__init__"),`(cb (λz=>z.testBit i) h1),`(fM (l:=R.entries) (i:=m)),`(hl pins s σ H _ I h),`(hv pins s σ H _ I h),`(ly.mem_iff.mpr (je _ hs)),`(pure (ForInStep.yield r)),`(sI.mpr (by rw[lY];omega)),`(starEach [e,f] X.env),`(λD4 H4 vw s4 h4=>?_),`(λq=>hb (by simp[q])),`(⟨_,ag.of (s1.at hl)⟩),`(.Call ZmX ZbZ [] gq),`(.Name "enumerate" p),`(.inr ⟨_,_,by rw[e]⟩),`(CE outer P w H s Q u s'),`(List.mem_map_of_mem q),`(Y2 19 f fd mv (wY A K)),`(Zbw H Q (I.lL _) hw),`(aF ⟨ZmP,λp hp=>?_⟩),`(aN.mpr ⟨z,cO,rfl⟩),`(absurd (e1▸bT eo) Vu),`(by rw[au,lj];simp[nats]),`(h'.IsListIter i1 l1 YQ),`(h'.IsListIter i2 l2 YQ),`(h'.IsListIter i3 l3 YQ),`(intBits_le_64 h1 h2),`(j_ h a es ep (cH m Zk6)),`(l.findIdx λy=>y==x),`(nat (ch.getLastD 0)),`(rawInt g7.objs.size),`(s3.tab _ (s2.tab _ acm)),`(seqObj "list" #[] 0),`(starEach [e2] X.env),`(x<R.plan.persons.length),`(z.sameBut hs (vL y c e)),`(σ[0]? =some (some Zf2)),`(⟨_,H,I.kept k,?_,q⟩),`(⟨oc,od,.func fd,jn⟩),`(((Yj ws).1,(Yj ws).2))]
def zZx:ZZ:=#[`(.inl (.inl (s0 _ _ h))),`(.ref s1.heap.objs.size),`(Fr X.base X.env.locals),`(List.replicate k.toNat),`(PG X (.Tuple es k pos)),`(SetTable.grown Zah),`(Turn X.prog X.w X.K tg),`(Zw "bytes_of" B6 1 C8),`(Zey Zrp f0 f1 f3 f4 f5),`(Yr l (zS w l ZhW)),`(Zbw _ _ I1 (hw od)),`(Zca dx (fh f y fs)),`(de X (compareOp uG) r'),`(eE U1 VZ ZG rfl),`(ip.mpr (λq=>h (mF q))),`(k2 _ _ (one D.z1) fF),`(l.foldl (λa x=>ZcP a)),`(rawInt ((i:Int)+1)),`(s.heap.objs.size+2),`(s.heap.objs.size+3),`(s.heap.objs.size+4),`(wJ ?_ (by size_fits)),`(λD H1 hD s1 h=>?_),`(⟨e,ZrY,vs,_,qG h2,e⟩),`(⟨xs,x,p.1.seq hx,ex⟩),`((ae ED).trans ZaN),`((p:Int)+1+(n:Int)),`(.ins A.part dx []),`(.int ((i+1 :Nat):Int)),`(.ref g7.objs.size),`(.tup (p.1.map kV)),`(.type "list_iterator"),`(Obj.putSet dI Zl1),`(PY I.ok.kind hk hn hm),`(Sum.inl (z.2.1:Int)),`(Sum.inl (z.2.2:Int)),`(Zw "is_name" B3 1 IB),`(Zw "is_text" B1 1 Iz),`(Yr s1.heap.objs.size),`(aN.mpr ⟨y,hy,rfl⟩),`(bg (bN pG YB aR ZP)),`(by rw[ax Zdx];exact q),`(by rw[ax Zna];exact q),`(by rw[ax e4];exact e2),`(by rw[ax e5];exact e3),`(by rw[dR]<;>omega),`(by rw[hc];exact h.ins),`(by rw[hd]at q;cases q),`(by rw[mB]<;>omega),`(by simpa using ew),`(by simpa using h y hy),`(by simpa using hi),`(by simpa using hw),`(cb (λz=>z.testBit s)),`(de X (binaryOp .Mult)),`(gA (λ_ _ e=>s3.at e)),`(h'.IsKeyIter it d XG),`(lS (eE Ku Zbk aR ZP)),`(nats (wy.map Z1)),`(s.heap.get? d=some od),`(vs.toList.map toV),`(λa b=>F a (x::b))]
def zZy:ZZ:=#[`(λi σ H hi p=>?_),`(∀a s,Q a s->Q' a s),`(⟨Zl9,(tY w).symm⟩),`(⟨Zft,H,YL,Zs,q⟩),`(.lst (ja xs lo hi)),`(.lst [.bl false]),`(.ok (.ret .none)),`(.ref x::(vs++i_)),`(.str ⟨#[dX b]⟩),`(Addr×List Bytes),`(ForInStep.yield ok),`(Hc ⟨x,hx,sN x⟩),`(SetTable.insertAt es),`(Str.ofString " "),`(T.uL "persons" ZT),`(Zw x ps 17 (iU A n)),`(ZcI "split" apos),`(aaT YV st oC gF hsz),`(abp P wf ws ok rb ij),`(adJ s.heap I.big),`(by rw[K5,hsz];decide),`(by rw[NO,hsz];decide),`(by simpa using I.len),`(by simpa using qG h2),`(call Zc1 (v::us)),`(dU (WK Ym Zow)),`(ea.symm.trans eb),`(h'.Ns X.env.locals m),`(ns.map WData.int),`(partsFrom x y.length),`(qJ r r' ta tb tc),`(s.heap.objs.size<=a),`(t.roles.contains z),`(tj (ZfB hv ?_ hn j5)),`(λ_ _ _ _ _=>ZG),`(λ_ _ _ _ _=>Zev),`(λ_ _ _ _ _=>ZR),`(λ_ _ _ _ _=>VZ),`(λ_ e=>nomatch e),`(⟨_,ZbY,λq hq=>?_⟩),`(⟨sV,λz hz=>VG⟩),`(by obtain⟨x,_,rfl⟩:=aN.mp hb;rfl)]
def y:ZY:=#[`(tactic|(simp! [])),`(tactic|(constructor)),`(tactic|(have hsz:=sz)),`(tactic|(exact this)),`(tactic|(refine aI ?_)),`(tactic|(intro pins s σ H Q I h)),`(tactic|(refine aF ?_)),`(tactic|(obtain⟨t,rfl⟩:=rx)),`(tactic|(dsimp only)),`(tactic|(have hu:=gi hr;have hsz:=sz)),`(tactic|(refine aF Zwe)),`(tactic|(obtain⟨r,c,i,j,R,k,rfl,hR,wr,hc,hk,q⟩:=h)),`(tactic|(intro pins s σ H x y v u Q I rx ry h)),`(tactic|(obtain⟨r,c,i,j,R,k,rfl,_⟩:=h;rfl)),`(tactic|(obtain⟨z',br,rfl⟩:=Zbx;rw[hz]at br;cases br)),`(tactic|(have cZ:=hR.fC)),`(tactic|(refine aj ?_)),`(tactic|(refine⟨Tp,_,rfl,bM.of au,rfl,?_⟩)),`(tactic|(intro pins s σ H D I h)),`(tactic|(obtain⟨h1,h2⟩:=Zb7)),`(tactic|(by_cases e:y=x)),`(tactic|(have n1:=T.dG "plan" ZT)),`(tactic|(intro pins s σ H R I h)),`(tactic|(subst e;rw[af rfl])),`(tactic|(obtain⟨zs,he,ez,hz⟩:=hR.entries)),`(tactic|(intro pins s σ H xs us Q I r h)),`(tactic|(obtain⟨t,rfl⟩:=r)),`(tactic|(intro σ H3 hv)),`(tactic|(have cD:=XJ)),`(tactic|(obtain⟨e0,_,e⟩:=Zqu;rw[zero (nc 0 rfl)]at e⊢)),`(tactic|(have hi:=hR.fC.ins)),`(tactic|(rw[filter_all]at h)),`(tactic|(subst e;rw[t]at k)),`(tactic|(rw[ae h1]at h)),`(tactic|(unfold lineOf)),`(tactic|(obtain⟨dx,nl,tl,pl,c1,c2,c3⟩:=(hc.same (ji H i.aH)).ex;have n1:=ZnN)),`(tactic|(intro X hP hw hK hc i pins s σ H E I hf st hg;subst hP hw hK)),`(tactic|(obtain⟨r,i,j,P,ab,c,rfl,_⟩:=h;rfl)),`(tactic|(obtain⟨st,aT,rfl⟩:=Wo)),`(tactic|(obtain⟨t',rfl⟩:=ry)),`(tactic|(intro m y σ H2 hy hv)),`(tactic|(rw[hz]at br;cases br)),`(tactic|(have hu:=gi hr)),`(tactic|(intro σ H' hv)),`(tactic|(by_cases h2:ws.getD 0 []=text "person")),`(tactic|(by_cases h3:ws.getD 0 []=text "step")),`(tactic|(rw[aX hl,gK]at k;exact aF UO)),`(tactic|(have cG:=(s1.trans s2).trans s3)),`(tactic|(obtain⟨e,y⟩:=y;subst e)),`(tactic|(rw[z];exact zi _ _)),`(tactic|(by_cases e:p.1=k)),`(tactic|(by_cases e:y.1=s))]
def ya:ZY:=#[`(tactic|(rw[show its.toArray.any U7=its.any U7 by simp,BO r fs];exact q)),`(tactic|(simp! [];refine⟨r,i,j,P,ab,c,rfl,hR,wf,wc,λH1 d s1 Md hO=>?_⟩)),`(tactic|(obtain⟨x,ex⟩:=fM hi;exact⟨xs,x,Zbl p,ex⟩)),`(tactic|(refine aF ⟨_,ZbY,_,g0,eQ _ _,?_⟩;rw[eW])),`(tactic|(have da:Zkb x=ZbS Zet:=rfl)),`(tactic|(obtain⟨o',e1⟩:=I.base.there b o e hx)),`(tactic|(obtain⟨x,ex⟩:=fM (l:=xs) (i:=i) Zb)),`(tactic|(refine⟨_,Xe,_,g0,?_⟩;simp! [eQ,eW])),`(tactic|(by_cases h1:ws.getD 0 []=text "role")),`(tactic|(by_cases h2:t∈Y7 step∨full=true)),`(tactic|(by_cases h4:ws.getD 0 []=text "most")),`(tactic|(obtain⟨dx,r,i,j,h1,h2,h3,h4⟩:=h)),`(tactic|(obtain⟨p,w,i,P,ws,rfl,_⟩:=h;rfl)),`(tactic|(obtain⟨z,its,n,r,hl,e⟩:=I.xJ hH)),`(tactic|(have e:ei.cells.lookup y=some c:=e)),`(tactic|(obtain⟨its,r,pl,hz⟩:=UL)),`(tactic|(cases(show u=Value.ref b from ry))),`(tactic|(obtain⟨g1,g2⟩:=f5 h1 h2 h3 h4)),`(tactic|(obtain⟨p,ix,P,rfl,hP,wf,k⟩:=h)),`(tactic|skip),`(tactic|(obtain⟨L,hL,rfl⟩:=mem q hq)),`(tactic|(obtain⟨p,i,P,rfl,_⟩:=h;rfl)),`(tactic|(obtain⟨q,hq,rfl⟩:=aN.mp hp)),`(tactic|(have:=h _ ht;simp[e]at this)),`(tactic|(intro wh pins s σ H Q I h)),`(tactic|(obtain⟨m,hn,hl⟩:=I.loc)),`(tactic|(obtain⟨h1,dx,h2⟩:=h)),`(tactic|(obtain⟨rfl,rfl⟩:=hr)),`(tactic|(intro m y σ H3 hy hv)),`(tactic|(obtain⟨t,rfl⟩:=ry)),`(tactic|(rw[af h1]at h;cases h)),`(tactic|(rw[af h2]at h;cases h)),`(tactic|(rw[af h3]at h;cases h)),`(tactic|(simp only[zl,hx]at h')),`(tactic|(simp! [c1,T.lH,n1,vN])),`(tactic|(have hlen:=r'.length)),`(tactic|(have jT:=cG.trans s4)),`(tactic|(have E7:=wf.persons)),`(tactic|(rename_i kv p l1 l2)),`(tactic|(left;simpa using e)),`(tactic|(obtain⟨t,h⟩:=h)),`(tactic|(have sc:=iy s1 hL.dO;have eI:=hC.same sc;have AR:t1∉i.aH:=hL.dO.og xS;refine k _ (by rw[c1];exact sc) ⟨_,q1,?_⟩;rw[c1])),`(tactic|(have n1:=T.dG "plan" ZT;have n2:=Zbm;simp! [hR.ins,T.dD,n1,lQ,hR.plan.ins,T.bU,n2,k_])),`(tactic|(rw[show Zcp ((k,x)::r)=(if k=f then(k,v)::r else(k,x)::Zcp r)from rfl];by_cases hk:k=f)),`(tactic|(refine aF ?_;simp! [iJ.ins,T.bU,n7,n8];obtain⟨rb,h⟩:=h;obtain⟨m1,m2,m3,m4⟩:=xK h)),`(tactic|(obtain⟨e0,_,e⟩:=Zqu;obtain⟨a,b,ab⟩:=two (nc 2 rfl);rw[ab]at e⊢)),`(tactic|(obtain⟨e0,_,e⟩:=Zqu;obtain⟨a,ab⟩:=one (nc 1 rfl);rw[ab]at e⊢)),`(tactic|(subst e;obtain⟨o,e,c,d⟩:=st;exact⟨o,e,λv z=>by rw[d]at z;cases z⟩)),`(tactic|(obtain⟨its,rv,p,_⟩:=I.list iH;obtain⟨lx,uj,p2,_⟩:=I.list m_)),`(tactic|(obtain⟨rb,h⟩:=h;rw[t];subst e;obtain⟨h1,h2,h3,h4⟩:=xK h)),`(tactic|(have g0:f_ Zds 0=some (aE Um):=ZdH (kQ cY))),`(tactic|(obtain⟨oc,od,kV,doc,pm,an,aG,ct,jn,rfl,lk,lB⟩:=F.ex)),`(tactic|(have n1:=T.uL "steps" ZT;have n2:=Zyo)),`(tactic|(obtain⟨rfl,hi⟩:=J6 hx;obtain⟨rfl,_⟩:=uo hz)),`(tactic|(subst ey;obtain⟨z,hd,vs,rel,dd⟩:=yP I.aC e)),`(tactic|(obtain⟨sl,e1⟩:=I.base.slot b o e n hb hx)),`(tactic|(obtain⟨r,i,j,P,ab,c,rfl,hR,wf,wc,k⟩:=h)),`(tactic|(intro pins s σ H x xs v us Q I rx rs h)),`(tactic|(obtain⟨r,i,j,P,ab,c,rfl,hR,wf,k⟩:=h)),`(tactic|(unfold ln;simp only[bA,bb,bS,jM];omega)),`(tactic|(obtain⟨a,b,c,d,l,rfl⟩:=HJ (f3 h3))),`(tactic|(obtain⟨z,hd,xs,rel,dd⟩:=yO I.aC e))]
def yb:ZY:=#[`(tactic|(obtain⟨e,n,ne,nf,d⟩:=Zec hp)),`(tactic|(obtain⟨f0,f1,f2,f3,f4,f5⟩:=WS)),`(tactic|(have cY:0<ws.length:=sX.mpr ok.ne)),`(tactic|(obtain⟨a,b,c,rfl⟩:=wL (f4 h4))),`(tactic|(obtain⟨a,b,l,rfl⟩:=HK (f2 h2))),`(tactic|(obtain⟨f1,f2,f3,f4,f5⟩:=FI hf)),`(tactic|(obtain⟨c,q1,q2⟩:=e3 pos cv e)),`(tactic|(rw[t];obtain⟨h1,h2,h3⟩:=As h)),`(tactic|(unfold ln;simp only[bA,bb];omega)),`(tactic|(have aT:isStep R z=ZaB Zhh:=rfl)),`(tactic|(obtain⟨a,b,rfl⟩:=HL (f1 h1))),`(tactic|(obtain⟨t,ht,rfl⟩:=aN.mp hp)),`(tactic|(obtain⟨a,b,c,rfl⟩:=wL g2)),`(tactic|(obtain⟨its,r,pl,hz⟩:=Zfy)),`(tactic|(have ha:a=text "person":=h2)),`(tactic|(obtain⟨hp,g,d,tk,os⟩:=s)),`(tactic|(obtain⟨z,hz,rfl⟩:=qT hy)),`(tactic|(subst e;exact I1.qg ZA ZeZ)),`(tactic|(obtain⟨ra,iF,rfl⟩:=Zbx)),`(tactic|(have ha:a=text "most":=h4)),`(tactic|(have ha:a=text "role":=h1)),`(tactic|(have ha:a=text "step":=h3)),`(tactic|(obtain⟨c,hc,rfl⟩:=UN)),`(tactic|(obtain⟨x,hx,rfl⟩:=Wo)),`(tactic|skip),`(tactic|(obtain⟨x,hx,rfl⟩:=UN)),`(tactic|(simp! [fj.ins,T.bU,n1,n0])),`(tactic|(obtain⟨o,ho,hc,hd⟩:=id x;obtain⟨oa,A2,u6,Bd⟩:=id y;unfold pyNext;refine aj (zC (ZeA x.typeIs wZ (mJ wZ x.typeIs Rw ?_ (Rx _))));unfold Builtin.«set_iterator.__next__» slotArgs;simp only[afv,qA,kf,↓reduceIte,bind_assoc,jM,aee];refine aj (aL Zoh);refine aj (PV A2 Bd hf ?_))),`(tactic|(have s1:Z8 Zjt:=a0 cY;have LZ:=s1.at hi;simp! [LZ,T.dD,n1,pz];refine⟨_,ag.of (s1.at he),?_⟩;rw[adU,show(refs zs).take kk=refs ZfL by unfold refs;rw[zk]];intro p hp;have s2:Z8 (upd Zjt p ZeE):=bV s1 (s1.free hp);have x8:H p=none:=s1.free hp)),`(tactic|(simp only[A1,kf,i5];show YF (if(Value.ref d==Value.none)=true then _ else _) _ _ s;rw[ae (show¬((Value.ref d==Value.none)=true)from eh)];refine aj Ys;refine aj (P1 ni bt ?_);rw[ae (by rw[hsz];simp)];refine aj Ys;refine aj (P0 ni bt ?_))),`(tactic|(simp only[newExc,newTuple];refine aj Zxv;refine aj (m:=firstArgMember _ _) (CB (a:=Value.none) (by first |rfl|(simp only[firstArgMember];rfl)) ?_);refine Zxv;simp only[raiseNew];refine aj (wpAny_handled ?_))),`(tactic|(rw[←fL];obtain⟨m1,m2,m3⟩:=As h;refine⟨p,a1,i,P,l,rfl,s2.at vg,s2.at Lw,wf.roles,jF,m2,by simp only[bb]at aC;omega,λH3 r3 s3 LA jY=>?_⟩;have qS:=ZfU;have q2:=q1.same qS;have Lz:r3∉i.aH:=(q1.same s2).dO.og LA)),`(tactic|(refine aF ⟨r,i,j,R.plan,R.absent,ZD,l,rfl,Zj9,wr.wf,wr.wc,hl,λH2 l2 s2 bH=>o7 bH Zb λH3 l3 s3 _ b0=>?_⟩;exact Zfk Zhs (by rw[b0,Ax]) (by rw[Ay];omega))),`(tactic|(have n1:=Zbr;have n2:=Zbm;have n3:=Uo;have n4:=ZhY;have n5:=Zia;have n6:=ZiN;have n7:=Zaq)),`(tactic|(subst e2;refine⟨_,_,_,_,_,_,_,rfl,Walks.list (A:=X.A.in1) YV _ a aK its.toArray,st,Qc hb,λh' tk hk=>?_⟩;refine⟨.bl _,H,I.kept λb o eo=>hk b o (λjA=>?_) (cV _ eo),?_,q⟩)),`(tactic|(obtain⟨hz,hS,vs,Aa,m⟩:kvs.length<=sizeLine/\(a==sysModules)=false/\∃vs,XO/\s.heap.DictOf Zbu a vs:=I.aC a _ ha;have hlen:kvs.length=vs.length:=du Aa)),`(tactic|(obtain⟨⟨old,he⟩,hit,aK⟩:=st;obtain⟨xs,x,hq,hx⟩:=hg;obtain⟨its,rv,p,hz⟩:=UL;obtain⟨u,hu,ru⟩:=ZgK;have kH:e<s.heap.objs.size:=bT he)),`(tactic|(obtain⟨z,l_⟩:=fM hi;refine⟨z,l_,?_⟩;obtain⟨u,eu,ru⟩:=rv.get (show(refs zs)[i]? =some ZaI by unfold refs;rw[cx,l_];rfl);rw[hv]at eu;cases eu)),`(tactic|(simp! [c1,T.lH,n1,vN];refine⟨_,UU,_,bQ (j:=0) rfl,_,UU,_,bQ (j:=1) rfl,r,i,j,R.plan,R.absent,ZD,z,rfl,cZ,_,rfl,?_⟩)),`(tactic|(obtain⟨j,h1,h2,h3,h4,h5⟩:=Oi he;obtain⟨w,ew,kW⟩:=r.get h2;have hl:=r.length;have hn:=uR;have fin:Yy w s:=⟨z,H,I,kW,q⟩)),`(tactic|(intro σ H1 Q1 Q2 f h;obtain⟨v,h1,w,h2,x,n,h3,h4,i,j,h5,h6,b,h7,h8⟩:=h;exact⟨v,h1,w,h2,x,n,h3,h4,i,j,h5,h6,b,h7,f _ _ h8⟩)),`(tactic|(intro pins s σ H vs us Q I r h;obtain⟨a,bs,rfl,hs,q⟩:=h;obtain⟨its,rv,hl,_⟩:=ZkA;rw[Vals.J4 r];have hb:=rv.Oe)),`(tactic|(intro m y σ H4 hy hv;obtain⟨v2,rfl,s4,gD⟩:=(Zi _).mp hv;obtain⟨q,hq,rfl⟩:=Wo;obtain⟨ss,jv,eS⟩:=gN dv hq)),`(tactic|(obtain⟨pe,da,rfl⟩:=UG;obtain⟨ra,iF,rfl⟩:=Wo;obtain⟨rl,fG,eS⟩:=gN gR iF;rw[cx,da]at fG;cases fG)),`(tactic|(intro n hn;have s1:Z8 ZcU:=a0 hn;refine⟨d,_,Zkx,trivial,λod=>?_⟩;have gU:d≠n:=cg hd hn)),`(tactic|(obtain⟨r,i,j,P,ab,c,z,rfl,hR,k⟩:=h;refine⟨_,(ak (ay (D6 n9 rE aR ZC (XI (aa ZcT ai))))),?_⟩)),`(tactic|(simp only[zl,hx];by_cases hc:(k₀==NameKind.free&&sc.kind==.function &&sc.names.lookup n==some .cell)=true)),`(tactic|(obtain⟨its,rv,⟨⟨cls,dd,data,sl⟩,n,ho,hc,gU,hd⟩,hlen⟩:=ZkA;simp only at hc hd;subst hc hd)),`(tactic|(intro value slice pins s σ H x y v u Q I rx ry h hs;obtain⟨p,xs,i,z,rfl,rfl,hq,he,q⟩:=h;cases rx)),`(tactic|(obtain⟨c,e1,e2⟩:=Zdv;refine⟨c,e1,?_⟩;rw[ax λq=>nx _ (by rw[←q];exact e2)];exact e2)),`(tactic|(rw[bu hl,fm]at k;refine aI ⟨_,Xe,_,gk 1 Zb,_,rfl,(qE ok Zb).1,(qE ok Zb).2,λH1 s1=>Yu⟩)),`(tactic|(obtain⟨σ3,H3,I3,n3⟩:=q3;obtain⟨m',hm,w3⟩:=hN σ3 H3 n3;exact⟨m',hm,σ3,H3,I3,w3⟩)),`(tactic|(intro σ H' hv;obtain⟨v3,v4,rfl,s2,hO⟩:=(Zi _).mp hv;refine⟨ZfT,?_⟩)),`(tactic|(obtain⟨p1,e1⟩:=s1.b9 b ps e;obtain⟨p2,e2⟩:=sL.b9 b p1 e1;exact s2.b9 b p2 e2)),`(tactic|(intro σ H4 hv;obtain⟨v2,rfl,s4,gD⟩:=(Zi _).mp hv;rw[aq,du dv,eg]at gD;exfalso)),`(tactic|(obtain⟨o1,q1,c1,_⟩:=hit;obtain⟨o2,q2,c2,_⟩:=p.isList;rw[z,q1]at q2;cases q2)),`(tactic|(obtain⟨o,es,ep,ho,r⟩:=hm;exact⟨o,es,ep,k _ o (λz=>(hf _ z).2.1 rfl) ho,r⟩)),`(tactic|(refine⟨l5,rfl,_,xX,_,jB,by simp only[aq,bb,jM];omega,λr gm=>?_⟩;have jj:=ZaA)),`(tactic|(obtain⟨ps,nh,kL⟩:=aN.mp h2;obtain⟨pt,xZ,oI⟩:=aN.mp h3;by_cases es:s=step)),`(tactic|(rw[Cq (qt hj)]at e2;obtain⟨u',r',q⟩:=hl j y v' e1 e2 e3;refine⟨u',r',?_⟩)),`(tactic|(obtain⟨T,x,e,hT,e2,y⟩:=y;subst e e2;exact hs i x T σ H (y xs (Zbl p)) p hT)),`(tactic|(obtain⟨i,j,rfl,q⟩:=h;obtain⟨u,w',rfl,⟨t,rfl⟩,⟨t',rfl⟩⟩:=vals2 r))]
def yc:ZY:=#[`(tactic|(subst e;obtain⟨oi,e,c,dd⟩:=st;exact⟨oi,e,λv z=>by rw[dd]at z;cases z⟩)),`(tactic|(simp only[sliceBounds,HT.iW,aeO,show(1 :Int)>0 by decide,iD];by_cases h:i<0)),`(tactic|(rw[eb,e];refine aF ((Zi _).mpr ⟨_,rfl,gz,λt ht=>?_⟩);rw[dA jv]at ht)),`(tactic|(simp! [b7];intro l hl;have s1:ZpI:=a0 hl;have fj:=ZbP)),`(tactic|(obtain⟨H2,fL⟩:∃H2,H2=upd Zjt p ZeE:=Zs;rw[←fL]at s2⊢)),`(tactic|(have:X.env.scope.names.lookup x=some .free :=hk;rw[k]at this;cases this)),`(tactic|(obtain⟨its,rv,p1,_⟩:=I1.list iH;obtain⟨lx,uj,p2,_⟩:=I1.list m_)),`(tactic|(refine yR asm ?_;rw[PK aeL _];show ZaF (pyNext (.ref I)>>= _) _ _ s)),`(tactic|(obtain⟨a,kvs,rfl,ha,q⟩:=h;obtain⟨u,rfl,rx⟩:=o6 r;cases rx)),`(tactic|(refine⟨d,e1,?_⟩;rw[g3 d (nP _ _ e2 ZeM) (nC _ _ e2)];exact e2)),`(tactic|(intro X hP hw hK hcalm i pins s σ H E I hf st hg;subst hP hw hK)),`(tactic|(obtain⟨_,_,_,_,o,_,_,e,ex,_⟩:=ZgW hk;exact⟨o,e,ex⟩)),`(tactic|(obtain⟨x,ex⟩:=fM hi;obtain⟨y,ey⟩:=fM (l:=ys) (i:=i) Zb)),`(tactic|(obtain⟨⟨a,rfl⟩,q1⟩:=q1;obtain⟨t,rfl⟩:=_root_.id r1)),`(tactic|(have Nk:a=text "after"∨a=text "unlike"∨a=text "alike":=g1)),`(tactic|(obtain⟨zs,cE,_⟩:=(hW.same s3).ex;simp! [cQ cE];refine Zlh)),`(tactic|(obtain⟨p0,h0,_⟩:=id h;obtain⟨ps,h1,h2,h3⟩:=s.tab P h)),`(tactic|(obtain⟨v7,v8,v9,ys,rfl,s3,pV,qh,i6,jt,EO⟩:=(Zi _).mp hv)),`(tactic|(have hT:s.TypeIs Zdp "zip":=⟨_,hz,rfl⟩;unfold pyNext)),`(tactic|(have hlen:(personNames P).length =P.persons.length:=X3)),`(tactic|(obtain⟨l,v3,v4,v5,v6,v7,rfl,s2,A6,r8⟩:=(Zi _).mp hv)),`(tactic|(obtain⟨q,cn,v4,v5,v6,rfl,s6,hq,Eh,tl⟩:=(Zi _).mp hv)),`(tactic|(obtain⟨_,vs,h1,h2,⟨e,rfl⟩|⟨e,rfl⟩⟩:=BN ar q)),`(tactic|(rw[bu hl,fm]at k;exact aI ⟨_,Xe,names 1 H Q ZU k⟩)),`(tactic|(subst hj;rw[hi]at e1;cases e1;rw[Hb hiσ]at e2;cases e2)),`(tactic|(obtain⟨R',v6,rfl,s4,ve,cF,bc,jx,dB⟩:=(Zi _).mp hv)),`(tactic|(obtain⟨ob,_,_,h1,h2,_⟩:=dd;exact⟨ob,h1,h2.2.1⟩)),`(tactic|(obtain⟨x',ju,rfl⟩:=get_map ig;rw[hx]at ju;cases ju)),`(tactic|(obtain⟨P,v2,v3,v4,rfl,sc,vn,wf,iE⟩:=(Zi _).mp hv)),`(tactic|(rw[ax (λz=>by rw[z,h]at q;cases q;exact mu)];exact q)),`(tactic|(have hlen:(stepNames P).length =P.steps.length:=X3)),`(tactic|(obtain⟨l,b,xs,zs,rfl,rfl,hH,hB,hz,q⟩:=h;cases rx)),`(tactic|(refine Zqa;have gz:=(s4.trans s5).trans s6)),`(tactic|(have Bl:fO H4 d XM:=((hO.same s2).same s3).same s4)),`(tactic|(rw[af h2];rw[af h2]at ek;exact(err 2 _ Zk ek).symm)),`(tactic|(obtain⟨v4,v5,rfl,s5,hu5,hw5,jB⟩:=(Zi _).mp hv)),`(tactic|(rw[←fw];rw[←fw]at q1 c1;have vg:=(dQ q1.ins).1)),`(tactic|(obtain⟨v2,v4,rfl,s7,h72,Fu,vx⟩:=(Zi _).mp hv)),`(tactic|(obtain⟨z,hz⟩:=fM hi;have ju:=y xs (s1.seq hx))),`(tactic|(obtain⟨l4,v5,v6,rfl,s4,oA,ik⟩:=(Zi _).mp hv)),`(tactic|(obtain⟨p,hp⟩:=e.b9 l ps q;rw[hp]at h;cases h)),`(tactic|(obtain⟨v2,v3,v4,rfl,s6,fY⟩:=(Bi _ _ _).mp hv)),`(tactic|(obtain⟨v3,v4,v5,rfl,s3,jZ,b0⟩:=(Zi _).mp hv)),`(tactic|(have e2:=KX a o hk;rw[e]at e2;obtain rfl:=bY e2)),`(tactic|(have m1:=(sg _ _).mp h1;have m2:=(sg _ _).mp h2)),`(tactic|(obtain⟨y',jX,rfl⟩:=Zbx;rw[hy]at jX;cases jX)),`(tactic|(obtain⟨⟨old,he⟩,⟨o,ho,hc,hd⟩,_⟩:=st)),`(tactic|(by_cases h:Reach P.after (Yj ws).2 (Yj ws).1)),`(tactic|(have e1:(Xx step).contains t=true:=bx.mpr h1)),`(tactic|(have ex:x=((x.toNat:Nat):Int):=(mD hf.1).symm)),`(tactic|(have h5:(mask t).length =t.length:=X3;omega)),`(tactic|(obtain⟨v2,v3,v4,rfl,s2,bH⟩:=(Zi _).mp hv)),`(tactic|(obtain⟨v2,v3,v4,rfl,s2,hW⟩:=(Zi _).mp hv)),`(tactic|(obtain⟨v2,v3,v4,rfl,s3,i8⟩:=(Yk _).mp hv)),`(tactic|(obtain⟨v2,v3,v4,rfl,s4,ik⟩:=(Yk _).mp hv)),`(tactic|(obtain⟨v4,v5,v6,rfl,s3,i8⟩:=(Yk _).mp hv)),`(tactic|(obtain⟨v5,v6,rfl,s4,lE⟩:=(Bj _ _ _).mp hv)),`(tactic|(obtain⟨o,ho,hc,hd⟩:=id hit;unfold pyNext)),`(tactic|(obtain⟨p,a,ix,P,ss,rfl,hP,wf,ha,hl,k⟩:=h)),`(tactic|(obtain⟨p,xs,rfl,hq,fx,fs,q⟩:=h;cases ry)),`(tactic|(obtain⟨r,_,rfl⟩:=aN.mp hw;exact TK wf r)),`(tactic|(obtain⟨_,_,_,q⟩:=hs;exact False.elim q))]
def yd:ZY:=#[`(tactic|(obtain⟨hz,dY,⟨x0,y0,fJ⟩,h1,h2⟩:=st)),`(tactic|(obtain⟨l,v4,rfl,rfl,hl⟩:=(Zi _).mp hv)),`(tactic|(obtain⟨v2,v3,rfl,s2,hW⟩:=(Zi _).mp hv)),`(tactic|(obtain⟨v3,v4,rfl,s2,yq⟩:=(Zi _).mp hv)),`(tactic|(obtain⟨v4,v5,rfl,s2,gD⟩:=(Zi _).mp hv)),`(tactic|(obtain⟨v7,rfl,s6,E_,A5⟩:=(Yk _).mp hv)),`(tactic|(rw[g3 d (nP _ _ q ZeM) (nC _ _ q)];exact q)),`(tactic|(rw[iE]at bt;have jT:YH H4:=Ts cG Np b0 ud)),`(tactic|(have hl:=uR;have hs:sizeLine=16777216:=zQ)),`(tactic|(obtain⟨c2,oc,vs,t,e,ho,hd⟩:=x;cases e)),`(tactic|(obtain⟨r,i,j,P,ab,c,s,x,rfl,_⟩:=h;rfl)),`(tactic|(obtain⟨r,i,j,P,ab,c,x,s,rfl,_⟩:=h;rfl)),`(tactic|(rintro⟨k,hk,rfl⟩;have:=dS.mp hk;omega)),`(tactic|(have e:=r.length;simp only[oY]at e;omega)),`(tactic|skip),`(tactic|(intro pins s σ H x xs v us Q I rx rxs h)),`(tactic|(obtain⟨p,a,r,i,P,ps,rm,rfl,_⟩:=h;rfl)),`(tactic|(have z2:WData.weightAll ds<=1048576:=z)),`(tactic|(intro pins s σ H x vs v us Q I rx rv h)),`(tactic|(obtain⟨bm,ob,b1,b2,b3,b4,b5,b6⟩:=hB)),`(tactic|(obtain⟨dx,nl,tl,pl,Oc,F1,F0⟩:=hc.ex)),`(tactic|(obtain⟨r,i,j,P,ab,c,l,rfl,_⟩:=h;rfl)),`(tactic|(obtain⟨r,i,j,P,ab,c,z,rfl,_⟩:=h;rfl)),`(tactic|(obtain⟨v3,rfl,s2,hq⟩:=(Zi _).mp hv)),`(tactic|(obtain⟨v4,rfl,s3,kE⟩:=(Yk _).mp hv)),`(tactic|(show(if isName b=false then _ else _)=_))]
def zc(c:Char):Nat:=if c.val>=97 then c.val.toNat-97 else if c.val>=65 then c.val.toNat-39 else c.val.toNat+4
def zx(n:Name):MacroM Term:=match n with
 |.str .anonymous s=>match s.toList with
  |[a,b]=>(match a with
   |'Z'=>zZ
   |'Y'=>zY
   |'X'=>zX
   |'W'=>zW
   |'V'=>zV
   |'U'=>zU
   |_=>#[]).getD (zc b) Macro.throwUnsupported
  |['Z',a,b]=>(match a with
   |'a'=>zZa
   |'b'=>zZb
   |'c'=>zZc
   |'d'=>zZd
   |'e'=>zZe
   |'f'=>zZf
   |'g'=>zZg
   |'h'=>zZh
   |'i'=>zZi
   |'j'=>zZj
   |'k'=>zZk
   |'l'=>zZl
   |'m'=>zZm
   |'n'=>zZn
   |'o'=>zZo
   |'p'=>zZp
   |'q'=>zZq
   |'r'=>zZr
   |'s'=>zZs
   |'t'=>zZt
   |'u'=>zZu
   |'v'=>zZv
   |'w'=>zZw
   |'x'=>zZx
   |'y'=>zZy
   |_=>#[]).getD (zc b) Macro.throwUnsupported
  |_=>Macro.throwUnsupported
 |_=>Macro.throwUnsupported
def zy(n:Name):MacroM (TSyntax `tactic):=match n with
 |.str .anonymous s=>match s.toList with
  |[b]=>y.getD (zc b) Macro.throwUnsupported
  |[a,b]=>(match a with
   |'a'=>ya
   |'b'=>yb
   |'c'=>yc
   |'d'=>yd
   |_=>#[]).getD (zc b) Macro.throwUnsupported
  |_=>Macro.throwUnsupported
 |_=>Macro.throwUnsupported
end Zt
local macro_rules|`($x:ident)=>Zt.zx x.getId
local macro_rules|`($x:ident $a*)=>do let t←Zt.zx x.getId;if t.raw.isOfKind ``Lean.Parser.Term.app then return t.raw.setArg 1 (Lean.mkNullNode (t.raw[1].getArgs++a)) else return Lean.Syntax.node .none ``Lean.Parser.Term.app #[t,Lean.mkNullNode a]
local macro_rules|`(tactic|ext $x:ident)=>Zt.zy x.getId
section
open PySem
abbrev ae:=@if_neg
abbrev af:=@if_pos
abbrev aj:=@PySem.wpAny_bind
abbrev aq:=@List.length_map
abbrev aJ:=@List.mem_cons
abbrev aL:=@PySem.wpAny_pure
abbrev aN:=@List.mem_map
abbrev aP:=@Bool.and_eq_true
abbrev aU:=@Nat.le_refl
abbrev aX:=@decide_eq_false
abbrev aY:=@List.mem_cons_self
abbrev a9:=@List.mem_cons_of_mem
abbrev bb:=@List.length_cons
abbrev bo:=@List.mem_singleton
abbrev bu:=@decide_eq_true
abbrev bx:=@List.contains_iff_mem
abbrev bz:=@List.map_map
abbrev bD:=@List.mem_filter
abbrev bI:=@List.mem_of_getElem?
abbrev bS:=@List.length_append
abbrev bT:=@PySem.Heap.lt_size
abbrev bX:=@decide_eq_true_eq
abbrev bY:=@Option.some.inj
abbrev b7:=@Nat.zero_le
abbrev b8:=@List.mem_append
abbrev cb:=@congrArg
abbrev cq:=@Nat.le_trans
abbrev cw:=@List.map_cons
abbrev cx:=@List.getElem?_map
abbrev cA:=@List.map_append
abbrev cV:=@PySem.Heap.get?_push_of_some
abbrev df:=@List.nodup_cons
abbrev dh:=@List.all_eq_true
abbrev di:=@Iff.rfl
abbrev dj:=@PySem.Heap.get?_push_size
abbrev dA:=@PyProof.Rows.take_snoc
abbrev dE:=@PySem.F.plainAttrs_list
abbrev dF:=@PySem.PassesOwn.never
abbrev dR:=@List.size_toArray
abbrev dS:=@List.mem_range
abbrev eg:=@List.take_length
abbrev eh:=@Bool.false_ne_true
abbrev eB:=@Nat.ne_of_lt
abbrev eC:=@List.append_assoc
abbrev eM:=@List.length_range
abbrev eY:=@List.length_take
abbrev eZ:=@List.length_filter_le
abbrev fc:=@List.append_nil
abbrev fm:=@Bool.true_and
abbrev fP:=@List.getElem?_eq_getElem
abbrev gb:=@PySem.Heap.size_push
abbrev gv:=@List.map_congr_left
abbrev gK:=@Bool.false_and
abbrev gL:=@PySem.wpAny_mono
abbrev hX:=@Nat.lt_of_lt_of_le
abbrev hZ:=@List.all_cons
abbrev h_:=@Bool.or_eq_true
abbrev ip:=@beq_eq_false_iff_ne
abbrev iq:=@PySem.F.type_list_append
abbrev ir:=@PySem.F.slot_list_append
abbrev iD:=@if_true
abbrev iP:=@Nat.le_of_lt
abbrev iQ:=@List.getElem?_eq_some_iff
abbrev iR:=@List.flatMap_cons
abbrev iS:=@Bool.eq_iff_iff
abbrev i5:=@if_false
abbrev je:=@List.mem_append_right
abbrev jf:=@List.filter_cons
abbrev jM:=@List.length_nil
abbrev jN:=@List.getD_eq_getElem?_getD
abbrev ka:=@List.any_cons
abbrev kf:=@Bool.false_eq_true
abbrev kP:=@PySem.mem_of_lookup
abbrev lU:=@or_false
abbrev lW:=@of_decide_eq_true
abbrev mw:=@List.not_mem_nil
abbrev mx:=@List.nodup_append
abbrev my:=@List.nil_append
abbrev mz:=@List.mem_append_left
abbrev mB:=@List.length_drop
abbrev mC:=@List.all_map
abbrev mD:=@Int.toNat_of_nonneg
abbrev mE:=@Int.toNat_natCast
abbrev mF:=@Int.ofNat.inj
abbrev mJ:=@PySem.wpAny_call_entry
abbrev nF:=@Nat.lt_irrefl
abbrev nG:=@List.flatten_cons
abbrev nH:=@List.filter_congr
abbrev nN:=@PySem.wpAny_holding
abbrev nO:=@PySem.wpAny_field
abbrev oO:=@beq_iff_eq
abbrev oQ:=@Sum.inl.inj
abbrev oR:=@Nat.ne_of_gt
abbrev oT:=@List.flatMap_append
abbrev oU:=@List.find?_cons
abbrev oV:=@List.cons_append
abbrev oY:=@Array.length_toList
abbrev o6:=@PyProof.Rows.vals1
abbrev qi:=@PySem.call_meets
abbrev qk:=@PySem.F.type_list_extend
abbrev ql:=@PySem.F.slot_list_extend
abbrev qo:=@PySem.Paired.snoc
abbrev qt:=@Ne.symm
abbrev qv:=@List.filter_filter
abbrev qA:=@Bool.not_true
abbrev qC:=@PySem.wpAny_truthy_bool
abbrev qD:=@PySem.wpAny_pyIter_list
abbrev sI:=@decide_eq_decide
abbrev sN:=@beq_self_eq_true
abbrev sV:=@List.nodup_nil
abbrev sW:=@List.mem_flatten
abbrev sX:=@List.length_pos_iff
abbrev s_:=@PySem.wpAny_seqItems
abbrev tj:=@PySem.wpAny_Call_Name_kw
abbrev tq:=@PySem.typeIs_str
abbrev vK:=@PySem.codeAny_mono
abbrev vO:=@bne_iff_ne
abbrev vW:=@PySem.W.mg_of
abbrev vX:=@PySem.F.called_set
abbrev wd:=@PySem.Obj.data_mapFields
abbrev we:=@List.take_of_length_le
abbrev wg:=@List.mem_flatMap
abbrev wj:=@List.map_nil
abbrev wk:=@List.foldl_cons
abbrev wm:=@List.filter_map
abbrev wo:=@List.filter_append
abbrev wq:=@List.any_map
abbrev wx:=@PySem.Heap.SameBut.update
abbrev wD:=@Bool.not_false
abbrev wF:=@Bool.not_eq_true'
abbrev wG:=@Bool.and_true
abbrev wI:=@PySem.wpAny_passesOwn
abbrev wJ:=@PySem.wpAny_newObj_type
abbrev wK:=@PySem.wpAny_callSpecial?_slot
abbrev yR:=@PySem.codeAny_builtin
abbrev yU:=@and_true
abbrev y6:=@PySem.Paired.length
abbrev zi:=@Nat.le_add_right
abbrev zj:=@List.mem_iff_getElem
abbrev zk:=@List.map_take
abbrev zl:=@List.lookup_cons
abbrev zm:=@List.getElem?_range
abbrev zo:=@List.drop_drop
abbrev zu:=@PySem.Heap.get?_update_self
abbrev zy:=@Bool.and_eq_false_iff
abbrev zC:=@PySem.wpAny_attempt
abbrev zG:=@true_implies
abbrev zQ:=@PySem.sizeLine_eq
abbrev Bv:=@false_implies
abbrev BR:=@PyProof.Rows.SameBut.refl
abbrev Cd:=@Nat.zero_add
abbrev Ce:=@Nat.testBit_and
abbrev Cf:=@Nat.lt_succ_self
abbrev Cg:=@Nat.lt_succ_of_lt
abbrev Ci:=@Nat.eq_of_testBit_eq
abbrev Cj:=@List.range_succ
abbrev Ck:=@List.pairwise_cons
abbrev Cm:=@List.mem_of_mem_take
abbrev Cn:=@List.map_id''
abbrev Co:=@List.map_drop
abbrev Cp:=@List.length_eq_zero_iff
abbrev Cq:=@List.getElem?_set_ne
abbrev Cr:=@List.getElem?_eq_none
abbrev Cs:=@List.countP_append
abbrev Ct:=@PySem.F.slot_str_split
abbrev Cu:=@PySem.F.slot_dict_keyiterator_next
abbrev Cy:=@PySem.wpAny_standAt
abbrev Cz:=@PySem.wpAny_setField_rec
abbrev CA:=@PySem.wpAny_setField
abbrev CB:=@PySem.wpAny_of_eq
abbrev CC:=@PySem.wpAny_call
abbrev CY:=@PyProof.Rows.split_len
abbrev FV:=@PyProof.Rows.cnt_none
abbrev F6:=@and_congr
abbrev Ga:=@PySem.F.slot_list_index
abbrev Gb:=@PyProof.Rows.callWith_type1
abbrev G2:=@Nat.zero_testBit
abbrev G3:=@Nat.testBit_or
abbrev G4:=@Nat.add_zero
abbrev G5:=@Nat.add_comm
abbrev G7:=@List.replicate_succ
abbrev G8:=@List.mem_of_find?_eq_some
abbrev G9:=@List.mem_filterMap
abbrev G_:=@List.map_id
abbrev Ha:=@List.isEmpty_iff
abbrev Hb:=@List.getElem?_set_self
abbrev Hc:=@List.findIdx_lt_length_of_exists
abbrev Hd:=@List.find?_eq_none
abbrev He:=@List.filterMap_cons
abbrev Hg:=@List.drop_length
abbrev Hh:=@List.contains_cons
abbrev Hm:=@Classical.byContradiction
abbrev Hn:=@PySem.Calls.spliced_cons
abbrev Hq:=@Bool.false_or
abbrev Hr:=@Bool.and_false
abbrev Hv:=@PySem.wpAny_typeNameOf_keyiter
abbrev Hw:=@PySem.wpAny_typeNameOfWhole_keyiter
abbrev Hx:=@PySem.wpAny_setState_of
abbrev Hy:=@PySem.wpAny_rule
abbrev Hz:=@PySem.wpAny_pyIter_zip
abbrev HA:=@PySem.wpAny_pyIter_slot
abbrev HB:=@PySem.wpAny_pyIter_enum
abbrev HC:=@PySem.wpAny_onRaise
abbrev HD:=@PySem.wpAny_loadPart'
abbrev HE:=@PySem.wpAny_letGo
abbrev HF:=@PySem.wpAny_isInstance
abbrev HG:=@PySem.wpAny_fieldsOf
abbrev HH:=@PySem.wpAny_execs_nil
abbrev HI:=@PySem.wpAny_Name
abbrev HW:=@PySem.tupleKind_room_in1
abbrev IJ:=@PySem.signature?_of
abbrev Kb:=@PySem.putSet_of
abbrev Kc:=@PySem.pushCells_keeps
abbrev Kx:=@ne_true_of_eq_false
abbrev KW:=@PySem.W.mem_lookup
abbrev Lf:=@PySem.intKind_is
abbrev Oz:=@PySem.F.type_list_index
abbrev OA:=@Prod.mk.injEq
abbrev OT:=@Nat.testBit_xor
abbrev OU:=@Nat.not_lt_zero
abbrev OV:=@Nat.min_eq_left
abbrev OW:=@Nat.le_of_succ_le
abbrev OX:=@Nat.le_of_eq
abbrev O4:=@List.range_succ_eq_map
abbrev O5:=@List.pairwise_lt_range
abbrev O6:=@List.map_flatMap
abbrev O7:=@List.map_eq_nil_iff
abbrev O8:=@List.length_singleton
abbrev O9:=@List.length_filterMap_le
abbrev O_:=@List.forIn_nil
abbrev Pa:=@List.foldl_append
abbrev Pb:=@List.flatMap_nil
abbrev Pc:=@List.filter_eq_self
abbrev Pd:=@List.countP_singleton
abbrev Pe:=@List.countP_cons
abbrev Pf:=@List.Perm.refl
abbrev Pn:=@Int.natCast_nonneg
abbrev Pp:=@PySem.F.slot_zip_next
abbrev Pq:=@PySem.F.entry_str_split
abbrev Pr:=@PySem.Calls.spliced_nil
abbrev Py:=@PySem.Calls.callWith_builtin
abbrev PD:=@Bool.or_false
abbrev PF:=@Bool.or_eq_false_iff
abbrev PJ:=@Array.getElem?_eq_none
abbrev PK:=@PySem.Around.under_plainId
abbrev PU:=@PySem.wpAny_specialOf
abbrev PV:=@PySem.wpAny_setEntries_of
abbrev PX:=@PySem.wpAny_nextOf_list_item
abbrev PY:=@PySem.wpAny_loadName_local
abbrev PZ:=@PySem.wpAny_listPart
abbrev P0:=@PySem.wpAny_dictEpoch
abbrev P1:=@PySem.wpAny_dictEntries
abbrev P2:=@PySem.wpAny_askSetting
abbrev ab2:=@PySem.isSubtype_type
abbrev ab3:=@PySem.isSubtype_stop
abbrev adO:=@decide_eq_false_iff_not
abbrev ad4:=@PySem.codeAny_of_tree
abbrev ad5:=@PySem.codeAny_call_builtin
abbrev aee:=@bne_self_eq_false
abbrev aeH:=@PySem.wpAny_ite_split
abbrev aeI:=@PySem.W.callWith_K
abbrev aeJ:=@PySem.W.KFB.if_not
abbrev aeK:=@PySem.F.slot_dict_get
abbrev aeL:=@PyProof.Rows.F.plain_set_update_loop
abbrev aeN:=@Option.some.injEq
abbrev aeO:=@Option.getD_none
abbrev aeQ:=@PySem.Obj.isFreed_of_fields
abbrev aeR:=@PySem.Obj.cls_mapFields
abbrev aeS:=@Nat.xor_assoc
abbrev aeT:=@Nat.testBit_two_pow
abbrev aeU:=@Nat.shiftLeft_eq
abbrev aeV:=@Nat.mul_le_mul
abbrev afo:=@List.take_zero
abbrev afp:=@List.take_succ_cons
abbrev afq:=@List.sum_cons
abbrev afr:=@List.perm_append_comm
abbrev afs:=@List.of_mem_zip
abbrev aft:=@List.nodup_range
abbrev afu:=@List.length_set
abbrev afv:=@List.isEmpty_nil
abbrev afw:=@List.getElem_mem
abbrev afx:=@List.getElem_inj
abbrev afy:=@List.getElem?_take_of_lt
abbrev afz:=@List.getElem?_drop
abbrev afA:=@List.getElem?_cons_zero
abbrev afB:=@List.getElem?_cons_succ
abbrev afC:=@List.getElem?_append_left
abbrev afD:=@List.forIn_cons
abbrev afE:=@List.flatten_append
abbrev afF:=@List.findSome?_eq_none_iff
abbrev afG:=@List.find?_some
abbrev afH:=@List.exists_mem_of_ne_nil
abbrev afI:=@List.drop_zero
abbrev afJ:=@List.drop_succ_cons
abbrev afK:=@List.drop_eq_getElem_cons
abbrev afL:=@List.cons_ne_nil
abbrev afM:=@List.cons.inj
abbrev afN:=@List.any_eq_true
abbrev afO:=@List.any_eq_false
abbrev afP:=@List.Sublist.refl
abbrev afQ:=@List.Pairwise.filter
abbrev afS:=@PySem.Heap.IsList.push
abbrev afT:=@PySem.F.called_enumerate
abbrev afU:=@PySem.F.args_str_split_2
abbrev afW:=@PySem.Code.quiet_builtin
abbrev afY:=@PySem.Calls.evalArgs_plain
abbrev afZ:=@PySem.Calls.Name_function_global
abbrev af0:=@Bool.eq_false_iff
abbrev af2:=@Array.toList_inj
abbrev af3:=@Array.toList_append
abbrev af4:=@Array.getElem?_toList
abbrev agc:=@PySem.wpAny_letOwnedTupleGo_zip
abbrev agd:=@PySem.wpAny_letOwnedTupleGo_enum
abbrev ase:=@PySem.W.length_le_weightAllW
abbrev asf:=@PySem.StrLaws.found_one
abbrev ash:=@PySem.F.slot_list_count
abbrev asi:=@PySem.F.slot_dict_getitem
abbrev asj:=@PySem.F.args_dict_get_3
abbrev asl:=@PyProof.Rows.callWith_builtin1
abbrev asm:=@PyProof.Rows.F.entry_set_update_loop
abbrev atm:=@List.length_erase_of_mem
abbrev atn:=@List.findSome?_isSome_iff
abbrev ato:=@List.findIdx?_eq_none_iff
abbrev ats:=@PySem.F.slot_dict_keyiterator_iter
abbrev att:=@PySem.F.entry_dict_keyiterator_next
abbrev atu:=@PySem.F.args_dict_keyiterator_next_1
abbrev atv:=@PySem.Calls.loadGlobal_builtin
abbrev aty:=@Array.getElem?_eq_some_iff
abbrev atz:=@Array.getElem?_eq_getElem
end
set_option maxRecDepth 100000
namespace L2
open PySem PySem.Spec PyProof.Rows
abbrev Key:=Sum Int Str
def pM:Key->Value->Bool
 | .inl k,v=>Value.isInt k v
 | .inr x,v=>Value.isStrOf x v
def alN(w:World):Key->Int
 | .inl k=>hashInt k
 | .inr x=>hashStr w x
theorem m5:∀{k:Key} {v:Value},pM k v=true->(∃i t,k=Sum.inl i/\v=Value.int i t)∨(∃x t,k=Sum.inr x/\v=Value.str x t)
 | .inl i,v,h=>by obtain⟨t,e⟩:=Value.isInt_shape (k:=i) (v:=v) h;exact .inl ⟨i,t,rfl,e⟩
 | .inr x,v,h=>by obtain⟨t,e⟩:=Value.isStrOf_shape (x:=x) (v:=v) h;exact .inr ⟨x,t,rfl,e⟩
theorem alM(i:Int)(t:Tok):pM (.inl i) Zcd=true:=by simp[pM,Value.isInt]
theorem alL(x:Str)(t:Tok):pM (.inr x) (U0 t)=true:=by simp[pM,Value.isStrOf]
theorem alK(a b:Int):decide ((Sum.inl a:Key)=Sum.inl b)=(a==b):=by
 by_cases e:a=b
 ·subst e;simp
 ·have h:¬(Sum.inl a:Key)=Sum.inl b:=λq=>e (oQ q);rw[aX h];exact(ip.mpr e).symm
theorem alH(a b:Str):decide ((Sum.inr a:Key)=Sum.inr b)=decide (a=b):=by
 by_cases e:a=b
 ·subst e;simp
 ·have h:¬(Sum.inr a:Key)=Sum.inr b:=λq=>e (Sum.inr.inj q);rw[aX h,aX e]
theorem alJ(a:Int)(b:Str):decide ((Sum.inl a:Key)=Sum.inr b)=false:=aX (λq=>nomatch q)
theorem alI(a:Str)(b:Int):decide ((Sum.inr a:Key)=Sum.inl b)=false:=aX (λq=>nomatch q)
def fV(prog:Program)(w:World):PySem.KeyKind prog w Key where
 is:=pM
 hash:=alN w
 inj:=λv a b ha hb=>by
  rcases m5 ha with⟨i,t,rfl,rfl⟩|⟨x,t,rfl,rfl⟩
  ·rcases m5 hb with⟨j,u,rfl,e⟩|⟨y,u,rfl,e⟩
   ·injection e with e1 _;rw[e1]
   ·exact nomatch e
  ·rcases m5 hb with⟨j,u,rfl,e⟩|⟨y,u,rfl,e⟩
   ·exact nomatch e
   ·injection e with e1 _;rw[e1]
 byValue:=λk v h=>by rcases m5 h with⟨i,t,rfl,rfl⟩|⟨x,t,rfl,rfl⟩<;>rfl
 pyHash:=λhv h=>by
  rcases m5 hv with⟨i,t,rfl,rfl⟩|⟨x,t,rfl,rfl⟩
  ·exact wpAny_pyHash_int h
  ·exact wpAny_pyHash_str h
 eqBool:=λhu hv h=>by
  rcases m5 hu with⟨i,t,rfl,rfl⟩|⟨x,t,rfl,rfl⟩
  ·rcases m5 hv with⟨j,u,rfl,rfl⟩|⟨y,u,rfl,rfl⟩
   ·rw[alK]at h;exact wpAny_eqBool_int h
   ·rw[alJ]at h;exact SeqAt.EqAt.int_str i t y u _ _ _ _ h
  ·rcases m5 hv with⟨j,u,rfl,rfl⟩|⟨y,u,rfl,rfl⟩
   ·rw[alI]at h;exact SeqAt.EqAt.str_int x t j u _ _ _ _ h
   ·rw[alH]at h;exact wpAny_eqBool_str h
 «strs»:=λk x t v h=>by
  rcases m5 h with⟨i,u,rfl,e⟩|⟨y,u,rfl,e⟩
  ·exact nomatch e
  ·injection e with e1 _
   subst e1;cases v<;>rfl
theorem KP(prog:Program)(w:World)(i:Int)(t:Tok):(fV prog w).is (.inl i) Zcd=true:=alM i t
theorem ak3(prog:Program)(w:World)(x:Str)(t:Tok):(fV prog w).is (.inr x) (U0 t)=true:=alL x t
end L2
namespace L2
open PySem PySem.Spec PyProof.Rows
inductive V where
 |ba|bl (b:Bool)|int (i:Int)|str (x:Str)|gr (b:Array UInt8)|FJ (b:UInt64)|ref (a:Addr)|ty (n:String)
 deriving DecidableEq
def RelV:V->Value->Prop
 | .ba,u=>u=Value.none
 | .bl b,u=>u=Value.bool b
 | .int i,u=>∃t,u=Value.int i t
 | .str x,u=>∃t,u=Value.str x t
 | .gr b,u=>∃t,u=Value.bytes b t
 | .FJ b,u=>∃t,u=Value.float b t
 | .ref a,u=>u=Value.ref a
 | .ty n,u=>u=Value.type n
abbrev Vals:Ze->Zq->Prop:=Paired RelV
theorem Vals.length{xs:Ze}{us:Zq}(r:WC):xs.length=us.length:=y6 r
theorem Vals.get:∀{xs:Ze} {us:Zq} {i:Nat} {x:V},WC->xs[i]? =some x->∃u,us[i]? =some u/\Zck u
 |_,_,_,_,.nil,e=>by simp at e
 |_,_,0,_,.cons r _,e=>by simp at e;subst e;exact⟨_,rfl,r⟩
 |_,_,i+1,x,.cons _ t,e=>by obtain⟨u,h1,h2⟩:=Vals.get (i:=i) (x:=x) t Znw;exact⟨u,Znx,h2⟩
theorem Vals.set{x:V}{u:Value}(r:Zck u):∀{xs:Ze} {us:Zq} (i:Nat),WC->Vals (xs.set i x) (us.set i u)
 |_,_,_,.nil =>.nil
 |_,_,0,.cons _ t=>.cons r t
 |_,_,i+1,.cons q t=>.cons q (Vals.set r i t)
theorem Vals.append:∀{xs ys:Ze} {us ws:Zq},WC->Zcc ws->Vals (xs++ys) (us++ws)
 |_,_,_,_,.nil,s=>s
 |_,_,_,_,.cons r t,s=>.cons r (Vals.append t s)
theorem Vals.take:∀{xs:Ze} {us:Zq} (n:Nat),WC->Vals (xs.take n) (us.take n)
 |_,_,0,_=>.nil
 |_,_,_+1,.nil =>.nil
 |_,_,n+1,.cons r t=>.cons r (Vals.take n t)
theorem Vals.drop:∀{xs:Ze} {us:Zq} (n:Nat),WC->Vals (xs.drop n) (us.drop n)
 |_,_,0,r=>r
 |_,_,_+1,.nil =>.nil
 |_,_,n+1,.cons _ t=>Vals.drop n t
def jL:ZM->Zad->Prop
 |some v,some u=>XS
 |none,none=>True
 |_,_=>False
def KV{κ:Type}:XN->Zap->Prop:=Paired λ(p:κ×V) (q:κ×Value)=>p.1=q.1/\RelV p.2 q.2
def kV:Key->V
 | .inl i=>Xs
 | .inr x=>U0
inductive HO where
 |lst (xs:List V)
 |tup (xs:List V)
 |dK (kvs:List (Key×V))|dT (kvs:List (List Key×V))
 |set (S:Int->Bool) (n:Nat)
 |ins (C dx:Addr) (fs:List (Str×V))
 |own (x:Addr)
 |xd (fs:List (Str×V))
 |met (f x:Addr)
 |JZ (lo hi:Int)
 |bL (o:Obj) (u:HO)
 |b9 (ps:Array Value)
 |ext (φ:Heap->Prop)
abbrev Hp:=Addr->Option HO
def upd(H:Hp)(a:Addr)(o:HO):Hp:=λb=>if b=a then some o else H b
theorem au{H:Hp}{a:Addr}{o:HO}:ZaP a=some o:=by unfold upd;rw[af rfl]
theorem ax{H:Hp}{a b:Addr}{o:HO}(h:b≠a):ZaP b=H b:=by unfold upd;rw[ae h]
theorem jh{H:Hp}{a:Addr}{o u:HO}:upd ZaP a u=V7 u:=by funext b;unfold upd;split<;>rfl
theorem ie{H:Hp}{a b:Addr}{o u:HO}(h:H a=some o)(h':H b=some u)(d:o≠u):a≠b:=by intro e;subst e;rw[h]at h';exact d (bY h')
theorem cg{H:Hp}{a b:Addr}{o:HO}(h:H a=some o)(h':ZgV):a≠b:=by intro e;subst e;rw[h]at h';cases h'
section
variable (P:Program)(w:World)
def dJ(H:Hp)(h:Heap)(a:Addr):HO->Prop
 | .lst xs=>xs.length<=sizeLine/\∃(its:Zq) (n:Nat),UZ/\h.get? a=some {cls:=Yg,data:=VE n}
 | .tup xs=>xs.length<=sizeLine/\∃its:List Value,UZ/\IsTup h a its.toArray
 | .dK kvs=>kvs.length<=sizeLine/\(a==sysModules)=false/\∃vs,XO/\Zjc vs
 | .dT kvs=>kvs.length<=sizeLine/\(a==sysModules)=false/\∃xs:List Zv1,
   Paired (λ(p:List Key×V) (q:List Key×Addr×Value)=>p.1=q.1/\H q.2.1=some ZxE/\RelV p.2 q.2.2) kvs xs/\
   ∃o es ep,h.get? a=some o/\o.ExactDict/\o.data=ZaW ep/\es.toList=xs.map (entryOfKey ZoG)/\(xs.map Zg).Nodup
 | .set S n=>h.SetOf (intKind P w) a S n
 | .ins C dx fs=>H dx=some ZgP/\fs.length<=1000/\dx≠a/\h.get? a=some (ZhM dx)/\
   ∃mA,h.Ns1 dx mA/\(∀f,ZmK)/\ZoS (fs.map Zg)
 | .own _=>∃o,h.get? a=some o
 | .xd fs=>∃mA,h.Ns1 a mA/\∀f,ZmK
 | .JZ lo hi=>∃t u v,h.get? a=some {cls:=Zjk,data:=.fields #[.int lo t,.int hi u,Vt v]}
 | .bL o u=>h.get? a=some o/\dJ H h a u
 | .b9 ps=>h.get? a=some {cls:=.none,data:=.fields ps}
 | .met f x=>h.get? a=some (Zm3 Zf2)
 | .ext φ=>φ h/\(∃o,h.get? a=some o)/\∀h1 h2:Heap,φ h1->(∀o,h1.get? a=some o->h2.get? a=some o)->φ h2
def c9(H:Hp)(h:Heap):Prop:=∀a o,H a=some o->Vg o
end
section
variable {P:Program}{w:World}{H H':Hp}{h h':Heap}{a:Addr}{o:HO}
theorem dJ.lt(x:Vg o):a<h.objs.size:=by
 cases o with
 |lst xs=>obtain⟨_,_,_,_,e⟩:=x;exact YZ
 |tup xs=>obtain⟨_,_,_,p⟩:=x;exact p.lt
 |dK kvs=>obtain⟨_,_,_,_,o,_,_,e,_⟩:=x;exact YZ
 |dT kvs=>obtain⟨_,_,_,_,o,_,_,e,_⟩:=x;exact YZ
 |set S n=>obtain⟨o,_,_,_,e,_⟩:=x;exact YZ
 |ins C dx fs=>obtain⟨_,_,_,e,_⟩:=x;exact YZ
 |own y=>obtain⟨_,e⟩:=x;exact YZ
 |xd fs=>obtain⟨_,⟨_,_,_,e,_⟩,_⟩:=x;exact YZ
 |JZ lo hi=>obtain⟨_,_,_,e⟩:=x;exact YZ
 |bL ob u=>obtain⟨e,_⟩:=x;exact YZ
 |b9 ps=>exact Zt9
 |met f y=>exact Zt9
 |ext φ=>obtain⟨_,⟨_,e⟩,_⟩:=x;exact YZ
theorem Paired.K1{α β:Type}{F G:Uu}:∀{l₁:ZN} {l₂:Wz},Zc6 l₁ l₂->(∀a b,F a b->G a b)->ZgY l₁ l₂
 |_,_,.nil,_=>.nil
 |_,_,.cons r t,f=>.cons (f _ _ r) (Paired.K1 t f)
theorem dJ.lO(x:Vg o)(k:∀b u,(b=a∨H b=some ZgP)->h.get? b=some u->h'.get? b=some u)
  (ho:∀b,H b=some ZgP->H' b=some ZgP) (ht:Ztu):dJ P w H' h' a o:=by
 induction o with
 |lst xs=>obtain⟨z,its,n,r,e⟩:=x;exact⟨z,its,n,r,Vi⟩
 |tup xs=>obtain⟨z,its,r,ob,e,c⟩:=x;exact⟨z,its,r,ob,Vi,c⟩
 |dK kvs=>obtain⟨z,y,vs,r,ob,es,ep,e,c⟩:=x;exact⟨z,y,vs,r,ob,es,ep,Vi,c⟩
 |dT kvs=>
  obtain⟨z,y,xs,r,ob,es,ep,e,c⟩:=x;exact⟨z,y,xs,Paired.K1 r λp q z=>Zvm,ob,es,ep,Vi,c⟩
 |set S n=>obtain⟨ob,es,ep,t,e,c⟩:=x;exact⟨ob,es,ep,t,Vi,c⟩
 |ins C dx fs=>
  obtain⟨d,z,ne,e,mA,⟨od,es,ep,e2,c⟩,r⟩:=x;exact⟨ho _ d,z,ne,Vi,mA,⟨od,es,ep,W6 (.inr d) e2,c⟩,r⟩
 |own y=>obtain⟨ob,e⟩:=x;exact⟨ob,Vi⟩
 |xd fs=>obtain⟨mA,⟨od,es,ep,e,c⟩,r⟩:=x;exact⟨mA,⟨od,es,ep,Vi,c⟩,r⟩
 |JZ lo hi=>obtain⟨t,u,v,e⟩:=x;exact⟨t,u,v,Vi⟩
 |bL ob u ih=>obtain⟨e,q⟩:=x;exact⟨Vi,ih q⟩
 |b9 ps=>
  have e:h.get? a=some {cls:=.none,data:=.fields ps}:=x;show h'.get? a=some {cls:=.none,data:=.fields ps};exact k a _ Xd e
 |met f y=>
  have e:h.get? a=some (Zm3 (.ref y)):=x;show h'.get? a=some (Zm3 (.ref y));exact k a _ Xd e
 |ext φ=>obtain⟨p,⟨o,e⟩,st⟩:=x;exact⟨st _ _ p λo q=>W6 Xd q,⟨o,Vi⟩,st⟩
theorem c9.lt(x:Xq)(e:H a=some o):a<h.objs.size:=(x a o e).lt
theorem c9.fresh(x:Xq)(e:Zo1):H a=none:=by
 cases q:H a with
 |none=>rfl
 |some u=>exact absurd (hX (x.lt q) e) Vu
theorem c9.kept(x:Xq)(k:Zhp):Za6 H h':=λa o e=>
 (x a o e).lO (λb u _ q=>k b u q) Zgb λ_ _ q=>q
theorem c9.laid(x:Xq)(k:Zhp)(hp:Zo1)(new:dJ P w ZaP h' a o):Za6 ZaP h':=λb u e=>by
 have hn:=x.fresh hp;by_cases hb:b=a
 ·subst hb;rw[au]at e;cases e;exact new
 ·rw[ax hb]at e;exact(x b u e).lO (λc v _ q=>k c v q) (λc q=>ZxP) λc xs q=>by rw[ax Zdx];exact q
end
def Rd(H:Hp)(a:Addr)(u:HO):Prop:=H a=some u∨∃o,H a=some ZaJ
theorem Rd.ok{P:Program}{w:World}{H:Hp}{h:Heap}{a:Addr}{u:HO}(r:Za4 u)(x:Xq):Vg u:=by
 rcases r with r|⟨o,r⟩
 ·exact x a u r
 ·obtain⟨_,q⟩:=x a _ r;exact q
def qu:ZaL->Prop
 |some (.lst _)=>True
 |some (.dK _)=>True
 |some (.dT _)=>True
 |some (.set _ _)=>True
 |some (.ins _ _ _)=>True
 |some (.ext _)=>True
 |_=>False
section
variable {P:Program}{w:World}{H:Hp}{h h':Heap}{x e:Addr}{o':HO}
theorem c9.write(ok:Xq)(mu:qu (H x))(he:ZnR)(k:ZrX)(ye:Zm8)
  (new:dJ P w (V8 o') h' x o'):Za6 (V8 o') h':=λb u q=>by
 have aaQ:∀c y,H c=some (.own y)->c≠x:=λc y r z=>by subst z;rw[r]at mu;exact mu
 have akC:∀c xs,H c=some Vj->c≠x:=λc xs r z=>by subst z;rw[r]at mu;exact mu
 by_cases hb:b=x
 ·subst hb;rw[au]at q;cases q;exact new
 ·rw[ax hb]at q;by_cases vm:b=e
  ·have q':H b=some ZbH:=by
    rcases he with z|z
    ·exact absurd (vm.trans z) hb
    ·rw[vm];exact z
   rw[q]at q';cases q';obtain⟨v,hv⟩:=ye;exact⟨v,by rw[vm];exact hv⟩
  ·refine(ok b u q).lO (λc v hc r=>k c v ?_ r) (λc r=>by rw[ax (aaQ c b r)];exact r) λc xs r=>by rw[ax (akC c xs r)];exact r
   rcases hc with rfl|hc
   ·exact vm
   ·rintro rfl;rcases he with z|z
    ·exact aaQ c b hc z
    ·rw[hc]at z;cases z;exact hb rfl
end
structure Un(fs ex:Zy)(H H':Hp)(h h':Heap):Prop where
 keep:∀b o,h.get? b=some o->H b=none->b∉fs->b∉ex->h'.get? b=some o
 slot:∀b o,h.get? b=some o->H b=none->b∈fs->b∉ex->∃sl,h'.get? b=some {o with slots:=sl}
 free:∀b o,h.get? b=some o->H b=none->b∉ex->H' b=none
 there:∀b o,h.get? b=some o->b∉ex->∃o',h'.get? b=some o'
 o9:∀b xs,H b=some Vj->H' b=some Vj
 ny:∀b o u,H b=some ZaJ->H' b=some ZaJ
 pb:∀b ps,H b=some ZgO->∃more,H' b=some (.b9 (ps++more))
section
variable {fs fs' ex ex':Zy}{H H1 H2:Hp}{h h1 h2 h':Heap}{a x e:Addr}{o:HO}
theorem Un.any(u:Zgl H1 h h1){b:Addr}{ob:Obj}(q:h.get? b=some ob)(n:ZgV)(hx:b∉ex):∃sl,h1.get? b=some {ob with slots:=sl}:=by
 by_cases hb:b∈fs
 ·exact u.slot b ob q n hb hx
 ·exact⟨ob.slots,u.keep b ob q n hb hx⟩
theorem Un.kept(k:Zhp):Zgl H h h':=
 ⟨λb ob q _ _ _=>k b ob q,λb ob q _ _ _=>⟨ob.slots,k b ob q⟩,λ_ _ _ n _=>n,λb ob q _=>⟨ob,k b ob q⟩,λ_ _ q=>q,λ_ _ _ q=>q,λ_ ps q=>⟨#[],by rw[q];simp⟩⟩
theorem Un.refl:Zgl H h h:=Un.kept λ_ _ q=>q
theorem Un.laid(k:Zhp)(hp:Zo1)(hn:H a=none):Zgl ZaP h h' where
 keep:=λb u q _ _ _=>k b u q
 slot:=λb u q _ _ _=>⟨u.slots,k b u q⟩
 free:=λb u q n _=>by rw[ax (eB (hX (bT q) hp))];exact n
 there:=λb u q _=>⟨u,k b u q⟩
 o9:=λb xs q=>by rw[ax Zdx];exact q
 ny:=λb u xs q=>by rw[ax Zdx];exact q
 pb:=λb ps q=>⟨#[],by rw[ax Zdx,q];simp⟩
theorem Un.write(mu:qu (H x))(he:ZnR)(k:ZrX)(ye:Zm8):Zgl (V8 o) h h':=by
 have hx:∀b,H b=none->b≠x:=λb n z=>by subst z;rw[n]at mu;exact mu
 have hb:∀b,H b=none->b≠e:=λb n z=>by
  subst z;rcases he with r|r
  ·exact hx b n r
  ·rw[n]at r;cases r
 have hm:∀b u,H b=some u->¬qu ZdN->b≠x:=λb u q nm z=>by subst z;rw[q]at mu;exact nm mu
 refine⟨λb u q n _ _=>k b u (hb b n) q,λb u q n _ _=>⟨u.slots,k b u (hb b n) q⟩,λb u q n _=>by rw[ax (hx b n)];exact n,λb u q _=>?_,
  λb xs q=>by rw[ax (hm b _ q λz=>z)];exact q,λb u xs q=>by rw[ax (hm b _ q λz=>z)];exact q,λb ps q=>⟨#[],by rw[ax (hm b _ q λz=>z),q];simp⟩⟩
 by_cases vm:b=e
 ·subst vm;exact ye
 ·exact⟨u,k b u vm q⟩
end
def CL(h:Heap)(H:Hp):Zy:=(List.range h.objs.size).filter λa=>(H a).isSome
def nr(h:Heap)(H:Hp):Heap:=PySem.W.hideAll h (CL h H)
theorem anh(h:Heap)(H:Hp):(nr h H).objs.size =h.objs.size:=PySem.W.hideAll_size _ _
theorem ani{h:Heap}{H:Hp}{b:Addr}{o:Obj}(e:Zo0)(n:ZgV):(nr h H).get? b=some o:=
 PySem.W.hideAll_get _ e λhm=>by have q:(H b).isSome =true:=(bD.mp hm).2;rw[n]at q;simp at q
theorem akw{h:Heap}{H:Hp}{b:Addr}{o:Obj}(e:(nr h H).get? b=some o):h.get? b=some o/\H b=none:=by
 have e':h.get? b=some o:=PySem.W.of_hideAll (CL h H) e;refine⟨e',?_⟩;cases q:H b with
 |none=>rfl
 |some x=>
  have hm:b∈CL h H:=bD.mpr ⟨dS.mpr (bT e'),by simp[q]⟩;have z:(nr h H).get? b=none:=PySem.W.hideAll_none (CL h H) hm;rw[z]at e;cases e
def BP(g h:Heap)(L:Addr):Zv:=(List.range h.objs.size).filterMap λa=>if a=L∨(g.get? a).isSome =true then none else(h.get? a).map λo=>(a,o)
theorem ak5{g h:Heap}{L a:Addr}{o:Obj}(h1:a≠L)(h2:g.get? a=none)(h3:h.get? a=some o):(a,o)∈BP g h L:=
 G9.mpr ⟨a,dS.mpr (bT h3),by simp[h1,h2,h3]⟩
theorem akv{g h:Heap}{L:Addr}{p:Zf9}(hp:p∈BP g h L):p.1≠L/\g.get? p.1=none/\h.get? p.1=some p.2:=by
 obtain⟨b,_,e⟩:=G9.mp hp;split at e
 ·cases e
 ·rename_i hn;cases q:h.get? b with
  |none=>rw[q]at e;simp at e
  |some u=>
   rw[q]at e;simp only[Option.map_some,aeN]at e;subst e;refine⟨λz=>hn (.inl z),?_,q⟩;show g.get? b=none;cases r:g.get? b with
   |none=>rfl
   |some v=>exact(hn (.inr (by simp[r]))).elim
theorem akK{g h:Heap}{L:Addr}:News g L h (BP g h L):=λp hp=>let⟨a,b,c⟩:=akv hp;⟨c,a,b⟩
end L2
namespace L2
open PySem PySem.Spec PyProof.Rows
structure Mod(K:PySem.W.Frag)(mg:Zx)(base:Heap):Prop where
 xM:K.In base
 glob:base.Ns mainGlobals mg
 blt:∃mb,base.Ns builtinsNs mb/\∀x:Str,x≠"__name__"->mb x=bootBuiltins x
 nolimit:base.NoLimit
structure Cx where
 prog:Program
 w:World
 K:PySem.W.Frag
 mg:Str->Option Value
 base:Heap
 A:Around
 N:List Str
 gM:Shared
 wz:Hp
 env:Env
 outer:List Env
 stack:List Env
 ex:List Addr
 fn:Str->Bool
 calm:Bool
 pn:List Zf9
 xe:Value->Shared->Prop
def nz(l:WZ):Zy:=l.filterMap (·.frame)
abbrev Cx.fs(X:Cx):Zy:=nz X.outer
def yW(sc:Scope)(x:Str):Prop:=sc.names.lookup x=some .local ∨sc.names.lookup x=some .cell ∨sc.names.lookup x=some .free
def Loc(sc:Scope)(x:Str):Prop:=sc.names.lookup x=some .local ∨sc.names.lookup x=some .cell
def Look(env:Env)(h:Heap)(m:Zx)(x:Str)(u:Value):Prop:=
 (env.kindOf x=some .local /\m x=some u)∨((env.kindOf x=some .cell ∨env.kindOf x=some .free)/\∃c,env.cells.lookup x=some c/\h.IsCell c ZdN)
structure Cx.Ok(X:Cx):Prop where
 mod:Mod X.K X.mg X.base
 kind:X.env.scope.kind=.function
 glob:X.env.globals=mainGlobals
 blt:X.env.builtins=builtinsNs
 above:X.gM.heap.objs.size<=X.env.locals
 inj:∀x y c,X.env.cells.lookup x=some c->X.env.cells.lookup y=some c->x=y
 has:∀x,(X.env.kindOf x=some .cell ∨X.env.kindOf x=some .free)->∃c,X.env.cells.lookup x=some c
 BJ:∀x c,X.fn x=true->X.env.cells.lookup x=some c->X.gM.heap.objs.size<=c
 hd:X.calm=true->X.A.handled=none
 frames:X.A.frames=some X.stack
 CT:X.stack=X.outer∨(X.stack=X.env::X.outer/\X.env.frame=some X.env.locals)
 FO:∀b∈X.ex,b≠X.env.locals/\∀x c,X.env.cells.lookup x=some c->c≠b
 bs:∀b o,X.base.get? b=some o->X.gM.heap.get? b=some o/\X.wz b=none
 oN:X.base.objs.size<=X.gM.heap.objs.size
 Aq:∀b o,X.base.get? b=some o->b∉X.ex
 Bw:∀b∈X.ex,b∉X.fs
 mj:ZvE X.outer
 vD:∀b∈X.fs,X.wz b=none
structure Inv(X:Cx)(pins:Zv)(σ:List ZM)(H:Hp)(s:Shared):Prop where
 ok:X.Ok
 os:s.os=X.gM.os
 bare:AllBare s.gens
 base:Un X.fs X.ex X.wz H X.gM.heap s.heap
 loc:∃m,ZmB/\∀(i:Nat) (x:Str) (v:V),X.N[i]? =some x->σ[i]? =some VU->Zfx x->∃u,XS/\Look X.env s.heap m x u
 cell:∀x c,X.env.cells.lookup x=some c->∃v,s.heap.IsCell c v
 free:H X.env.locals=none
 lF:∀x c,X.env.cells.lookup x=some c->H c=none
 pin:∀p∈X.pn++pins,s.heap.get? p.1=some p.2/\H p.1=none/\p.1≠X.env.locals/\p.1∉X.fs/\∀v,p.2.data≠.cell v
 aC:ZbB H s.heap
 len:σ.length=X.N.length
section
variable {X:Cx}{pins:Zv}{σ:List ZM}{H H':Hp}{s:Shared}{h':Heap}
theorem Cx.Ok.akF(ok:X.Ok){b:Addr}{o:Obj}(e:X.base.get? b=some o):b∉X.fs:=λhb=>by have:=(ok.mj.mem hb).1;rw[e]at this;cases this
theorem Inv.bs(I:Zf):∀b o,X.base.get? b=some o->s.heap.get? b=some o/\H b=none:=λb o e=>
 ⟨I.base.keep b o (ZjU e).1 (ZjU e).2 (I.ok.akF e) ZoP,I.base.free b o (ZjU e).1 (ZjU e).2 ZoP⟩
theorem Inv.bk(I:Zf):∀b o,X.base.get? b=some o->s.heap.get? b=some o:=λb o e=>(I.bs b o e).1
theorem Inv.mod(I:Zf):Mod X.K X.mg X.base:=I.ok.mod
theorem Inv.kr(I:Zf):X.K.In s.heap:=I.ok.mod.xM.keeps I.bk
theorem Inv.fr(I:Zf):∃m,Zxc s.heap m:=
 let⟨m,hn,_⟩:=I.loc
 ⟨m,hn,I.bk,Zka I.ok.above⟩
theorem Inv.lt(I:Zf):X.env.locals<s.heap.objs.size:=let⟨_,hn,_⟩:=I.loc;hn.lt
theorem Inv.sz(I:Zf):X.gM.heap.objs.size<=s.heap.objs.size:=cq I.ok.above (iP I.lt)
theorem Inv.akD(I:Zf){a:Addr}(h:ZyF):a∉X.fs:=λhb=>by obtain⟨_,o,ho,_⟩:=I.ok.mj.mem hb;exact absurd (hX (bT ho) (cq I.sz h)) Vu
theorem Inv.vL(I:Zf):∀x c,X.env.cells.lookup x=some c->c≠X.env.locals:=λx c e z=>by obtain⟨v,o,ho,hd⟩:=Zgj e;obtain⟨m,⟨o',es,ep,kD,yg,_⟩,_⟩:=I.loc;rw[z,kD]at ho;cases ho;rw[yg]at hd;cases hd
theorem Inv.mj(I:Zf):ZmL X.outer:=by
 have all:∀(l:WZ),(∀b∈nz l,b∈X.fs)->ZvE l->ZmL l:=by
  intro l
  induction l with
  |nil=>intro _ _;trivial
  |cons env r ih=>
   intro hs hl;obtain⟨hk,⟨L,o,hf,hn,ho,hd⟩,hr⟩:=hl;have hL:L∈X.fs:=hs L (by unfold nz;rw[He,hf];exact aY);obtain⟨sl,e⟩:=I.base.slot L o ho (I.ok.vD L hL) hL λz=>I.ok.Bw L z hL;exact⟨hk,⟨L,_,hf,hn,e,hd⟩,ih (λb hb=>hs b (by unfold nz;rw[He,hf];exact Za1)) hr⟩
 exact all X.outer (λ_ hb=>hb) I.ok.mj
theorem Inv.stack(I:Zf):ZmL X.stack:=by
 rcases I.ok.CT with e|⟨e,hf⟩
 ·rw[e];exact I.mj
 ·rw[e];obtain⟨m,hn,_⟩:=I.loc;refine .cons (by rw[I.ok.kind];decide) hf hn ?_ I.mj;exact Heap.get?_none_of_le (Zka I.ok.above)
theorem Inv.Ii(I:Zf):∀b∈nz X.stack,b∈X.env.locals::X.fs:=λb hb=>by
 rcases I.ok.CT with e|⟨e,hf⟩
 ·rw[e]at hb;exact Za1
 ·rw[e]at hb;unfold nz at hb;rw[He,hf]at hb;exact hb
theorem Inv.Qv(I:Zf):∀b∈nz X.stack,H b=none:=λb hb=>by
 rcases aJ.mp (I.Ii b hb)with e|hb
 ·rw[e];exact I.free
 ·obtain⟨_,o,ho,_⟩:=I.ok.mj.mem hb;exact I.base.free b o ho (I.ok.vD b hb) λz=>I.ok.Bw b z hb
theorem Inv.step{g':Array GenState}{t':Nat}{d':Drawn}{ch:Zy}(I:Zf)
  (gW:Zk0)
  (keep:∀b o,b≠X.env.locals->b∉X.fs->b∉ch->s.heap.get? b=some o->H b=none->h'.get? b=some o)
  (slot:∀b o,b≠X.env.locals->b∈X.fs->b∉ch->s.heap.get? b=some o->H b=none->∃sl,h'.get? b=some {o with slots:=sl}) (free:∀b o,b∉ch->s.heap.get? b=some o->H b=none->H' b=none)
  (there:∀b o,b∉ch->s.heap.get? b=some o->∃o',h'.get? b=some o')
  (o9:Ztu) (ny:∀b o u,H b=some ZaJ->H' b=some ZaJ) (pb:∀b ps,H b=some ZgO->∃more,H' b=some (.b9 (ps++more)))
  (ns:∀m,ZmB->ZyB) (aC:ZbB H' h') (hg:AllBare g'):
  Inv X pins σ H' {s with heap:=h',gens:=g',drawn:=d',toks:=t'}:=by
 have neL:∀b o,X.gM.heap.get? b=some o->b≠X.env.locals:=λb o e=>ZhJ;have Em:∀b o,X.gM.heap.get? b=some o->b∉X.ex->b∉ch:=λb o e hx hb=>by
  rcases(gW b hb).1 with z|z
  ·exact hx z
  ·exact absurd (hX YZ z) Vu
 have cellK:∀x c,X.env.cells.lookup x=some c->∀v,s.heap.IsCell c v->h'.IsCell c v:=λx c e v ⟨o,ho,hd⟩=>by
  have Av:c∉ch:=λz=>(gW c z).2.2.1 x c e rfl;by_cases hc:c∈X.fs
  ·obtain⟨sl,q⟩:=slot c o (I.vL x c e) hc Av ho ZfO;exact⟨_,q,hd⟩
  ·exact⟨o,keep c o (I.vL x c e) hc Av ho ZfO,hd⟩
 refine⟨I.ok,I.os,hg,⟨λb o e n hb hx=>?_,λb o e n hb hx=>?_,λb o e n hx=>?_,λb o e hx=>?_,λb xs e=>o9 b xs (I.base.o9 b xs e),λb o xs e=>ny b o xs (I.base.ny b o xs e),λb ps e=>?_⟩,?_,λx c e=>?_,?_,λx c e=>?_,λp hp=>?_,aC,I.len⟩
 ·exact keep b o (neL b o e) hb Zjf Zl3 ZeU
 ·ext a3;obtain⟨sl',e2⟩:=slot b _ (neL b o e) hb Zjf e1 ZeU;exact⟨sl',e2⟩
 ·ext af;exact free b o' Zjf e1 ZeU
 ·ext af;exact there b o' Zjf e1
 ·obtain⟨m1,e1⟩:=I.base.pb b ps e;obtain⟨m2,e2⟩:=pb b _ e1;exact⟨m1++m2,by rw[e2,Array.append_assoc]⟩
 ·ext az;refine⟨m,ns m hn,λi x v e1 e2 e3=>?_⟩;obtain⟨u,r,l⟩:=hl i x v e1 e2 e3;refine⟨u,r,?_⟩;rcases l with l|⟨k,c,e,z⟩
  ·exact .inl l
  ·exact .inr ⟨k,c,e,cellK x c e _ z⟩
 ·obtain⟨v,z⟩:=Zgj e;exact⟨v,cellK x c e v z⟩
 ·obtain⟨m,⟨o,_,_,ho,_⟩,_⟩:=I.loc;exact free _ o (λz=>(gW _ z).2.1 rfl) ho I.free
 ·obtain⟨v,o,ho,hd⟩:=Zgj e;exact free c o (λz=>(gW c z).2.2.1 x c e rfl) ho ZfO
 ·ext ba;have Av:p.1∉ch:=λz=>(gW p.1 z).2.2.2 p hp rfl;exact⟨keep p.1 p.2 ne nf Av e n,free p.1 p.2 Av e n,ne,nf,d⟩
theorem Inv.un{t':Nat}(I:Zf)(u:Un X.fs [] H H' s.heap h')(aC:ZbB H' h'):ZQ H' {s with heap:=h',toks:=t'}:=by obtain⟨m,⟨o,es,ep,ho,r⟩,_⟩:=id I.loc;obtain⟨sl,hL⟩:=u.any ho I.free Zh;exact Zuo (λb o _ hb _ e n=>u.keep b o e n hb Zh) (λb o _ hb _ e n=>u.slot b o e n hb Zh) (λb o _ e n=>u.free b o e n Zh) (λb o _ e=>u.there b o e Zh) u.o9 u.ny u.pb (λm' hm=>Zre) aC I.bare
theorem Inv.call{g':Array GenState}{t':Nat}{d':Drawn}{ch:Zy}(I:Zf)(u:Zuy h')(aC:ZbB H' h')(hg:AllBare g')
  (gW:Zk0):
  Inv X pins σ H' {s with heap:=h',gens:=g',drawn:=d',toks:=t'}:=by
 obtain⟨m,⟨o,es,ep,ho,r⟩,_⟩:=id I.loc;obtain⟨sl,hL⟩:=u.any ho I.free λz=>(gW _ z).2.1 rfl;exact I.step (ch:=ch) gW (λb o hL hb hc e n=>u.keep b o e n (λz=>(aJ.mp (I.Ii b z)).elim hL hb) hc) (λb o _ _ hc e n=>u.any e n hc) (λb o hc e n=>u.free b o e n hc) (λb o hc e=>u.there b o e hc) u.o9 u.ny u.pb (λm' hm=>Zre) aC hg
theorem Inv.turned{t':Nat}{it:Addr}(I:Zf)(k:∀b o,b≠it->s.heap.get? b=some o->h'.get? b=some o)(hn:H it=none)(hL:it≠X.env.locals)
  (h1:it∈X.ex∨X.gM.heap.objs.size<=it) (h2:∀x c,X.env.cells.lookup x=some c->c≠it) (h3:∀p∈X.pn++pins,p.1≠it):ZQ H {s with heap:=h',toks:=t'}:=by
 have rH:∀b u,H b=some u->b≠it:=λb u e z=>by rw[z,hn]at e;cases e
 refine Zrr (ch:=[it]) (λb hb=>?_) (λb o _ _ hc e _=>ZlW) (λb o _ _ hc e _=>⟨o.slots,ZlW⟩) (λ_ _ _ _ n=>n)
  (λb o hc e=>⟨o,ZlW⟩) Zp5 Zo9 Zlz Zp6 Zjj I.bare
 ·have e:b=it:=by simpa using hb
  subst e;exact⟨h1,hL,h2,h3⟩
 ·obtain⟨o,es,ep,ho,r⟩:=hm;exact⟨o,es,ep,k _ o (qt hL) ho,r⟩
 ·refine(Zcj u e).lO Zmr Zgb λ_ _ q=>q;rcases hc with z|z
  ·rw[z];exact rH b u e
  ·exact rH c _ z
theorem Inv.tok(I:Zf)(t:Nat):ZQ H {s with toks:=t}:=I.un (h':=s.heap) (t':=t) Un.refl I.aC
theorem Inv.kept{t':Nat}(I:Zf)(k:Zr8):ZQ H {s with heap:=h',toks:=t'}:=I.un (Un.kept k) (I.aC.kept k)
theorem Inv.laid{a:Addr}{o:HO}{t':Nat}(I:Zf)(k:Zr8)(hp:ZyF)(new:WM ZaP h' a o):
  Inv X pins σ ZaP {s with heap:=h',toks:=t'}:=I.un (Un.laid k hp (I.aC.fresh hp)) (I.aC.laid k hp new)
theorem Inv.write{x e:Addr}{o:HO}{t':Nat}(I:Zf)(mu:qu (H x))(he:ZnR)(k:∀b u,b≠e->s.heap.get? b=some u->h'.get? b=some u)(ye:Zm8)
  (new:WM (V8 o) h' x o):ZQ (V8 o) {s with heap:=h',toks:=t'}:=I.un (Un.write mu he k ye) (I.aC.write mu he k ye new)
theorem Inv.weak{σ':List ZM}(I:Zf)(hl:σ'.length=σ.length)(w:∀(i:Nat) v,σ'[i]? =some VU->σ[i]? =some VU):Inv X pins σ' H s:=
 ⟨I.ok,I.os,I.bare,I.base,let⟨m,hn,ve⟩:=I.loc;⟨m,hn,λi x v e1 e2 e3=>ve i x v e1 (w i v e2) e3⟩,I.cell,I.free,I.lF,I.pin,I.aC,hl.trans I.len⟩
theorem Inv.aal{aam:Zv}(I:Zf)(h:∀p∈aam,s.heap.get? p.1=some p.2/\H p.1=none/\p.1≠X.env.locals/\p.1∉X.fs/\∀v,p.2.data≠.cell v):Inv X aam σ H s:=
 ⟨I.ok,I.os,I.bare,I.base,I.loc,I.cell,I.free,I.lF,λp hp=>(b8.mp hp).elim (λz=>Zec (mz _ z)) (h p),I.aC,I.len⟩
theorem Kw{N:Zc}(hN:N.Nodup){i j:Nat}{x:Str}(a:N[i]? =some x)(b:N[j]? =some x):i=j:=by obtain⟨h1,e1⟩:=iQ.mp a;obtain⟨h2,e2⟩:=iQ.mp b;exact(afx hN).mp (e1.trans e2.symm)
theorem Qu{M:Model}{A:Around}{E:Zt}{i:Nat}{x:Str}{v:V}{u:Value}{Q:Zaj}(I:Zf)(hN:X.N.Nodup)(hi:Zc2)(hx:Zam)(r:XS)
  (h:∀s',Zuw->(∃a,Zh7 s'.heap/\(a=X.env.locals∨X.env.cells.lookup x=some a))->Q () s') (hf:X.fn x=true∨X.env.scope.names.lookup x=some .local :=by first |exact .inl rfl|exact .inr rfl|assumption):Zun:=by
 obtain⟨m,hn,hl⟩:=id I.loc;have anz:(X.env.scope.kind==.class ||(X.env.scope.kind==.module &&X.env.locals != X.env.globals))=false:=by rw[I.ok.kind];rfl
 have hiσ:i<σ.length:=by rw[I.len];exact(iQ.mp hi).1
 have vL:=I.vL;have tracked:∀{a:Addr} {h':Heap},(∃o,s.heap.get? a=some o/\H a=none)->Zh7 h'->ZbB H h':=λ{a h'} ha hs b ob e=>by
  obtain⟨_,_,so⟩:=ha;refine(Zcj ob e).lO (λc w' hc q=>(hs.2 c ?_).trans q) Zgb λ_ _ q=>q;rintro rfl;rcases hc with rfl|hc
  ·rw[so]at e;cases e
  ·rw[so]at hc;cases hc
 rcases hx with hk|hk
 ·refine wpAny_storeName_local hk hn (λh' x_ hs=>?_) anz;obtain⟨oL,_,_,vb,_⟩:=id hn;refine h _ ⟨I.ok,I.os,I.bare,Zq0,⟨_,x_,λj y v' e1 e2 e3=>?_⟩,λy c e=>?_,I.free,I.lF,λp hp=>?_,tracked ⟨oL,vb,I.free⟩ hs,Zyw⟩ ⟨_,hs,.inl rfl⟩
  ·exact(Za9 ZhJ).trans Zl3
  ·ext a3;exact⟨sl,(Za9 ZhJ).trans e1⟩
  ·ext af;exact⟨o',(Za9 ZhJ).trans e1⟩
  ·by_cases hj:j=i
   ·ext cy
    exact⟨u,r,.inl ⟨hk,Zh⟩⟩
   ·ext b7;rcases q with⟨k,e⟩|⟨k,c,e,z⟩
    ·refine .inl ⟨k,?_⟩;have:y≠x:=λe=>hj (Kw hN e1 (e▸hi));simp[this,e]
    ·exact .inr ⟨k,c,e,Zw5⟩
  ·obtain⟨w',z⟩:=I.cell y c e;exact⟨w',Zw5⟩
  ·ext ba;exact⟨(hs.2 p.1 ne).trans e,n,ne,nf,d⟩
 ·have j4:X.fn x=true:=by
   rcases hf with z|z
   ·exact z
   ·rw[z]at hk;cases hk
  obtain⟨c,hc⟩:=I.ok.has x (.inl hk);obtain⟨w',z⟩:=Zgj hc;refine wpAny_storeName_cell I.ok.kind hk hc z (λh' fI hs=>?_);obtain⟨oc,hoc,amL⟩:=id z;refine h {s with heap:=h'} ⟨I.ok,I.os,I.bare,Zq0,⟨m,hn.sameBut hs (qt (vL x c hc)),λj y v' e1 e2 e3=>?_⟩,λy c' e=>?_,I.free,I.lF,λp hp=>?_,tracked ⟨oc,hoc,I.lF x c hc⟩ hs,Zyw⟩ ⟨c,hs,.inr hc⟩
  ·exact(Za9 Zlw).trans Zl3
  ·ext a3;exact⟨sl,(Za9 Zlw).trans e1⟩
  ·ext af;exact⟨o',(Za9 Zlw).trans e1⟩
  ·by_cases hj:j=i
   ·ext cy
    exact⟨u,r,.inr ⟨.inl hk,c,hc,fI⟩⟩
   ·ext b7;rcases q with q|⟨k,c',e,z'⟩
    ·exact Wc
    ·refine .inr ⟨k,c',e,z'.sameBut hs ?_⟩;rintro rfl;exact hj (Kw hN e1 (I.ok.inj _ _ _ e hc▸hi))
  ·by_cases hcc:c'=c
   ·subst hcc;exact⟨_,fI⟩
   ·obtain⟨w2,z2⟩:=I.cell y c' e;exact⟨w2,z2.sameBut hs hcc⟩
  ·ext ba;refine⟨(hs.2 p.1 ?_).trans e,n,ne,nf,d⟩;intro q;rw[q,hoc]at e;have q':oc=p.2:=bY e;exact d w' (by rw[←q'];exact amL)
theorem Ih{M:Model}{A:Around}{E:Zt}{i:Nat}{x:Str}{v:V}{u:Value}{Q:Zaj}(I:Zf)(hN:X.N.Nodup)(hi:Zc2)(hx:Zam)(r:XS)
  (h:∀s',Zuw->Q () s') (hf:X.fn x=true∨X.env.scope.names.lookup x=some .local :=by first |exact .inl rfl|exact .inr rfl|assumption):Zun:=
 Qu I hN hi hx r (λs' I' _=>h s' I') hf
theorem Inv.aru{s':Shared}{ch:Zy}(I:Zf)(ho:s'.os=s.os)(u:Zuy s'.heap)(aC:ZbB H' s'.heap)(hg:ZoL)
  (gW:Zk0):VS:=by
 obtain⟨h',g',d',t',o'⟩:=s';have e:o'=s.os:=ho;subst e;exact I.call (g':=g') (t':=t') (d':=d') u aC hg gW
end
abbrev XK:=Value->Ws->Hp->Prop
abbrev St:=List ZM
abbrev VK:=V->Hp->Prop
abbrev TE:=St->Hp->VK->Prop
abbrev TT:=St->Hp->(Bool->Hp->Prop)->Prop
abbrev TA:=St->Hp->(List V->Hp->Prop)->Prop
structure Ends where
 nx:St->Hp->Prop
 rt:VK
 bk:St->Hp->Prop:=λ_ _=>False
 ct:St->Hp->Prop:=λ_ _=>False
abbrev TS:=Ends->St->Hp->Prop
def EP(X:Cx)(pins:Zv)(σ:St)(Q:VK)(u:Value)(s':Shared):Prop:=∃v H',VS/\XS/\Q v H'
def TP(X:Cx)(pins:Zv)(σ:St)(Q:Zfh)(b:Bool)(s':Shared):Prop:=∃H',VS/\Q b H'
def AP(X:Cx)(pins:Zv)(σ:St)(Q:Ze->Hp->Prop)(us:Zq)(s':Shared):Prop:=∃vs H',VS/\ZaH/\Q vs H'
def SP(X:Cx)(pins:Zv)(D:Ends)(f:Flow)(s':Shared):Prop:=
 match f with
 | .next =>∃σ' H',Zbg/\D.nx σ' H'
 | .brk =>∃σ' H',Zbg/\D.bk σ' H'
 | .cont =>∃σ' H',Zbg/\D.ct σ' H'
 | .ret u=>∃v σ' H',Zbg/\XS/\D.rt v H'
def PE(X:Cx)(e:Expr)(t:TE):Prop:=
 ∀(pins:Zv) (s:Shared) (σ:St) (H:Hp) (Q:VK),Zf->Zb8->Yt Yv Yy X.xe s
def PT(X:Cx)(e:Expr)(t:TT):Prop:=
 ∀(pins:Zv) (s:Shared) (σ:St) (H:Hp) (Q:Zfh),Zf->Zb8->Yt (isTrue e X.env Yv) ZiJ X.xe s
def PW(X:Cx)(e:Expr)(t:TT):Prop:=
 ∀(whole:Sem Value) (pins:Zv) (s:Shared) (σ:St) (H:Hp) (Q:Zfh),Zf->Zb8->Yt (isTrue e X.env whole) ZiJ X.xe s
theorem PW.pt{X:Cx}{e:Expr}{t:TT}(h:PW X e t):PT X e t:=h _
def PA(X:Cx)(es:Ya)(t:TA):Prop:=
 ∀(pos:Pos) (pins:Zv) (s:Shared) (σ:St) (H:Hp) (Q:Ze->Hp->Prop),Zf->Zb8->Yt (spliced (Xa WJ)) (AP X pins σ Q) X.xe s
def PS(X:Cx)(st:Stmt)(t:TS):Prop:=
 ∀(pins:Zv) (s:Shared) (σ:St) (H:Hp) (D:Ends),Zf->t D σ H->Yt (exec st X.env) ZfP X.xe s
def jb(X:Cx)(st:WV)(t:TS):Prop:=
 ∀(pins:Zv) (s:Shared) (σ:St) (H:Hp) (D:Ends),Zf->t D σ H->Yt (execs st X.env) ZfP X.xe s
theorem aM{α:Type}{t:Sem α}{Q Q':ZnU}{M:Model}{A:Around}{E:Zt}{s:Shared}(h:Vl t Q E s)(hQ:Zyb):Vl t Q' E s:=gL h hQ λ_ _ x=>x
end L2
namespace L2
open PySem PySem.Spec PyProof.Rows
section
variable {X:Cx}
theorem bin{a b:Expr}{ta tb:TE}(ha:Wg)(hb:US){pins:Zv}{s:Shared}{σ:St}{H:Hp}{R:V->V->Hp->Prop}(I:Zf)(h:ZsP)
  {α:Type} {Q:ZnU} {f:Value->Value->Sem α}
  (hf:Zrg):
  wpAny Yd X.A Zjb Zrf X.xe s:=by
 refine aM VA λv s1 ⟨x,H1,I1,r1,q1⟩=>?_;refine aM Zfz λu s2 ⟨y,H2,I2,r2,q2⟩=>?_;exact Zvh
def kR(i:Nat):TE:=fun σ H Q=>∃v,σ[i]? =some VU/\Q v H
def tC(v:V):TE:=λ_ H Q=>Q v H
theorem aiq{i:Nat}{x:Str}{pos:Pos}(hN:Zc2)(hv:Zfx x)(hd:(x==("__debug__":Str))=false:=by decide)(lB:(x==("__classdict__":Str))=false:=by decide):Zee (kR i):=by
 ext f;obtain⟨v,e,h⟩:=h;ext az;obtain⟨u,r,l⟩:=hl i x v hN e hv;have fin:Yy u s:=⟨v,H,I,r,h⟩;rcases l with⟨hk,hm⟩|⟨hk,c,hc,hcell⟩
 ·exact HI (ZxH fin) hd
 ·rcases hk with hk|hk
  ·exact HI (ZsG fin) hd
  ·exact HI (wpAny_loadName_free I.ok.kind hk hc hcell fin lB) hd
theorem aR{i j pos}:Zu (.Constant Xs j pos) (tC Xs):=λ_ _ _ H _ I h=>wpAny_Constant_int ⟨Xs,H,YL,Zs,h⟩
theorem kh{b j pos}:Zu (.Constant (.bool b) j pos) (tC WA):=λ_ _ _ H _ I h=>Constant_bool ⟨WA,H,I,rfl,h⟩
theorem uD{j pos}:Zu (.Constant .none j pos) (tC .ba):=λ_ _ _ H _ I h=>Constant_none ⟨.ba,H,I,rfl,h⟩
theorem cW{x j pos}:Zu (.Constant U0 j pos) (tC U0):=λ_ _ _ H _ I h=>Calls.Constant_str ⟨U0,H,YL,Zs,h⟩
def Gl(X:Cx)(x:Str):Prop:=X.env.kindOf x=some .globalImplicit
theorem Ex{E:Zt}{pins:Zv}{s:Shared}{σ:St}{H:Hp}{x:Str}{u:Value}{pos:Pos}{Q:Zt}(I:Zf)(hg:X1)(hm:X.mg x=some u)(h:Q u s)
  (hd:(x==("__debug__":Str))=false:=by decide):ZvF:=
 afZ I.ok.kind hg (Calls.loadGlobal_global (by rw[I.ok.glob];exact Zm2) hm h) hd
theorem rO{E:Zt}{pins:Zv}{s:Shared}{σ:St}{H:Hp}{x:Str}{u:Value}{pos:Pos}{Q:Zt}(I:Zf)(hg:X1)(hm:X.mg x=none)(hv:bootBuiltins x=some u)(h:Q u s)
  (hn:x≠"__name__":=by decide) (hd:(x==("__debug__":Str))=false:=by decide):ZvF:=by
 obtain⟨mb,h1,h2⟩:=I.mod.blt;exact afZ I.ok.kind hg (atv (by rw[I.ok.glob];exact Zm2) hm (by rw[I.ok.blt];exact h1.keeps I.bk) ((h2 x hn).trans hv) h) hd
theorem Kl{x:Str}{v:V}{u:Value}{pos:Pos}(hg:X1)(hm:X.mg x=some u)(r:XS)(hd:(x==("__debug__":Str))=false:=by decide):Zee (tC v):=
 λ_ _ _ H _ I h=>Ex I hg hm ⟨v,H,I,r,h⟩ hd
variable {a b:Expr}{ta tb:TE}{pos:Pos}
def PC(X:Cx)(op:CmpOp)(a b:Expr)(t:TE):Prop:=
 ∀(pins:Zv) (s:Shared) (σ:St) (H:Hp) (Q:VK),Zf->Zb8->
  wpAny Yd X.A Zjb (λv s₁=>Yt (eval b X.env) (λu s₂=>Yt (compareOp op v u) Yy X.xe s₂) X.xe s₁) X.xe s
def tB(t:TE):TT:=fun σ H Q=>t σ H λx H1=>∃c,x=.bl c/\Q c H1
theorem T8{op:CmpOp}{t:TE}(h:PC X op a b t)(h1:ZiQ b=false:=by first |exact atP _ (by decide) (by decide)|rfl):PT X Zme (tB t):=by
 intro pins s σ H Q I hw;refine wpAny_isTrue_Compare1 (aM (Zbw H _ I hw) λv s1 h1=>aM h1 λu s2 h2=>aM h2 λc s3 ⟨x,H1,I1,r1,q1⟩=>?_) h1;obtain⟨d,rfl,q⟩:=q1;cases r1
 exact qC ⟨H1,I1,q⟩
variable {tA CQ:TT}{rest:Ya}
def tX(t u:TT):TT:=fun σ H Q=>t σ H λc H1=>if c=true then u σ H1 Q else Q false H1
def tJ(t u:TT):TT:=fun σ H Q=>t σ H λc H1=>if c=true then Q true H1 else u σ H1 Q
def tK(t:TT):TT:=fun σ H Q=>t σ H λc H1=>Q (!c) H1
theorem J_(ha:ZgD):PW X (.BoolOp .And [a] pos) tA:=by
 ext ay;refine isTrue_and Zsq;cases c with
 |true=>exact isTrue_and_nil e
 |false=>exact e
theorem pA(ha:ZgD):PW X (.BoolOp .Or [a] pos) tA:=by
 ext ay;refine isTrue_or Zsq;cases c with
 |false=>exact isTrue_or_nil e
 |true=>exact e
theorem Ka(ha:ZgD)(hb:PW X Zus CQ):PW X ZtX (tX tA CQ):=by
 ext ay;refine isTrue_and Zto;cases c with
 |true=>exact Zvv
 |false=>exact⟨H1,I1,q1⟩
theorem pB(ha:ZgD)(hb:PW X ZuM CQ):PW X Zt4 (tJ tA CQ):=by
 ext ay;refine isTrue_or Zto;cases c with
 |true=>exact⟨H1,I1,q1⟩
 |false=>exact Zvv
theorem eR(ha:ZgD):PT X (.UnaryOp .Not a pos) (tK tA):=by intro pins s σ H Q I h;exact isTrue_not (ha pins s σ H (λc H1=>Q (!c) H1) I h)
def tW(ta tb:TE):TE:=fun σ H Q=>Xb H λx H1=>∃c,x=.bl c/\if c=true then tb σ H1 Q else Q ZaE H1
def tI(ta tb:TE):TE:=fun σ H Q=>Xb H λx H1=>∃c,x=.bl c/\if c=true then Q (.bl true) H1 else tb σ H1 Q
def wO(ta:TE):TE:=fun σ H Q=>Xb H λx H1=>∃c,x=.bl c/\Q (.bl (!c)) H1
theorem mW{op}{t:TE}(h:Zu a t):Zu (.BoolOp op [a] pos) t:=λpins s σ H Q I hw=>BoolOp_one (Zbw H Q I hw)
theorem lS(ha:Wg)(hb:Zu Zus tb):Zu ZtX (tW ta tb):=by
 ext f;refine BoolOp_and ZsA;obtain⟨c,rfl,q1⟩:=q1;cases r1
 refine qC ?_;cases c with
 |true=>exact ZeH Q I1 q1
 |false=>exact⟨ZaE,H1,I1,rfl,q1⟩
theorem aap(ha:Wg)(hb:Zu ZuM tb):Zu Zt4 (tI ta tb):=by
 ext f;refine BoolOp_or ZsA;obtain⟨c,rfl,q1⟩:=q1;cases r1
 refine qC ?_;cases c with
 |false=>exact ZeH Q I1 q1
 |true=>exact⟨.bl true,H1,I1,rfl,q1⟩
def tO(t:TT)(ta tb:TE):TE:=fun σ H Q=>t σ H λc H1=>if c=true then Xb H1 Q else tb σ H1 Q
theorem xn{c:Expr}(hc:PT X c tA)(ha:Wg)(hb:US):Zu (.IfExp c a b pos) (tO tA ta tb):=by
 ext f;refine wpAny_IfExp ZrJ;cases d with
 |true=>exact Zoy Q I1 q1
 |false=>exact ZeH Q I1 q1
end
end L2
namespace L2
open PySem PySem.Spec PyProof.Rows
def ag(K:PySem.W.Frag)(H:Hp)(a:Addr)(xs:Ze):Prop:=
 Rd H a Yw∨
  ∃(o:Obj) (its:YN) (n:Nat),K.lookup a=some o/\o.cls=.type "list"/\o.dict=none/\o.data=.seq its n/\its.size<=sizeLine/\ZeN its.toList
def bM(K:PySem.W.Frag)(H:Hp)(a:Addr)(xs:Ze):Prop:=
 Rd H a Vj∨
  ∃(o:Obj) (its:YN) (n:Nat),K.lookup a=some o/\o.cls=.type "tuple"/\o.data=.seq its n/\its.size<=sizeLine/\ZeN its.toList
def ar6:Value->Option V
 | .none =>some .ba
 | .bool b=>some WA
 | .int i _=>some Xs
 | .str x _=>some U0
 | .bytes b _=>some (.gr b)
 | .float b _=>some (.FJ b)
 | .ref a=>Zgr
 | .type n=>some (.ty n)
 |_=>none
theorem RelV.abs{x:V}{u:Value}(r:Zck u):ar6 u=some x:=by
 cases x with
 |ba=>cases r;rfl
 |bl _=>cases r;rfl
 |int _=>obtain⟨t,rfl⟩:=r;rfl
 |str _=>obtain⟨t,rfl⟩:=r;rfl
 |gr _=>obtain⟨t,rfl⟩:=r;rfl
 |FJ _=>obtain⟨t,rfl⟩:=r;rfl
 |ref _=>cases r;rfl
 |ty _=>cases r;rfl
theorem RelV.inj{x y:V}{u:Value}(r:Zck u)(q:XB):x=y:=bY (r.abs.symm.trans q.abs)
theorem Vals.inj:∀{xs ys:Ze} {us:Zq},WC->Zcc us->xs=ys
 |_,_,_,.nil,.nil =>rfl
 |_,_,_,.cons r t,.cons r' t'=>by rw[r.inj r',Vals.inj t t']
section
variable {X:Cx}{pins:Zv}{σ:St}{H:Hp}{s:Shared}{a:Addr}{xs ys:Ze}
theorem ag.of{K:PySem.W.Frag}(h:H a=some Yw):YJ:=.inl XQ
theorem bM.of{K:PySem.W.Frag}(h:H a=some Vj):VL:=.inl XQ
theorem Inv.list(I:Zf)(h:ZaY a xs):∃its:List Value,UZ/\PlainL s.heap a its.toArray/\xs.length<=sizeLine:=by
 rcases h with h|⟨o,its,n,hk,hc,hd,hs,hz,r⟩
 ·obtain⟨z,its,n,r,e⟩:=h.ok I.aC;exact⟨its,r,⟨_,n,e,rfl,rfl,rfl⟩,z⟩
 ·refine⟨its.toList,r,⟨o,n,I.kr a o hk,hc,hd,by simpa using hs⟩,?_⟩;ext dn
theorem Inv.tuple(I:Zf)(h:ZaZ a xs):∃its:List Value,UZ/\IsTup s.heap a its.toArray/\xs.length<=sizeLine:=by
 rcases h with h|⟨o,its,n,hk,hc,hs,hz,r⟩
 ·obtain⟨z,its,r,p⟩:=h.ok I.aC;exact⟨its,r,p,z⟩
 ·refine⟨its.toList,r,⟨o,I.kr a o hk,hc,n,by simpa using hs⟩,?_⟩;ext dn
theorem Inv.rM(I:Zf)(h:ZaY a xs)(h':ZaY a ys):xs=ys:=by
 obtain⟨its,r,⟨o,n,e,_,_,d⟩,_⟩:=I.list h;obtain⟨its',r',⟨o',n',e',_,_,d'⟩,_⟩:=I.list h';rw[e]at e';cases e';rw[d]at d';injection d' with d1 _
 have:its=its':=by simpa using cb Array.toList d1
 subst this;exact r.inj r'
theorem Inv.agJ(I:Zf)(h:ZaZ a xs)(h':ZaZ a ys):xs=ys:=by
 obtain⟨its,r,⟨o,e,_,n,d⟩,_⟩:=I.tuple h;obtain⟨its',r',⟨o',e',_,n',d'⟩,_⟩:=I.tuple h';rw[e]at e';cases e';rw[d]at d';injection d' with d1 _
 have:its=its':=by simpa using cb Array.toList d1
 subst this;exact r.inj r'
end
abbrev Cx.lL(X:Cx)(E:Zt):Cx:={X with xe:=E}
abbrev Cx.mY(X:Cx):Cx:=X.lL λ_ _=>False
theorem Cx.Ok.lL{X:Cx}(ok:X.Ok)(E:Zt):(X.lL E).Ok :=
 ⟨ok.mod,ok.kind,ok.glob,ok.blt,ok.above,ok.inj,ok.has,ok.BJ,ok.hd,ok.frames,ok.CT,ok.FO,ok.bs,ok.oN,ok.Aq,ok.Bw,ok.mj,ok.vD⟩
theorem Cx.Ok.nQ{X:Cx}{E:Zt}(ok:(X.lL E).Ok):X.Ok:=
 ⟨ok.mod,ok.kind,ok.glob,ok.blt,ok.above,ok.inj,ok.has,ok.BJ,ok.hd,ok.frames,ok.CT,ok.FO,ok.bs,ok.oN,ok.Aq,ok.Bw,ok.mj,ok.vD⟩
section
variable {X:Cx}{pins:Zv}{σ:St}{H:Hp}{s:Shared}{E:Zt}
theorem Inv.lL(I:Zf)(E:Zt):Zwn:=⟨I.ok.lL E,I.os,I.bare,I.base,I.loc,I.cell,I.free,I.lF,I.pin,I.aC,I.len⟩
theorem Inv.nQ(I:Zwn):Zf:=⟨I.ok.nQ,I.os,I.bare,I.base,I.loc,I.cell,I.free,I.lF,I.pin,I.aC,I.len⟩
theorem SP.nQ{D:Ends}{f:Flow}{s':Shared}(h:SP (X.lL E) pins D f s'):ZfP f s':=by
 cases f with
 |next=>obtain⟨σ',H',I,q⟩:=h;exact ZnY
 |brk=>obtain⟨σ',H',I,q⟩:=h;exact ZnY
 |cont=>obtain⟨σ',H',I,q⟩:=h;exact ZnY
 |ret u=>obtain⟨v,σ',H',I,r,q⟩:=h;exact⟨v,σ',H',I.nQ,r,q⟩
theorem PE.mY{e:Expr}{t:TE}(h:PE X.mY e t):Zu e t:=λpins s σ H Q I hw=>
 gL ZwO (λ_ _ ⟨v,H',I',r,q⟩=>⟨v,H',I'.nQ,r,q⟩) λ_ _ z=>ZjC
theorem PT.mY{e:Expr}{t:TT}(h:PT X.mY e t):PT X e t:=λpins s σ H Q I hw=>
 gL ZwO (λ_ _ ⟨H',I',q⟩=>⟨H',I'.nQ,q⟩) λ_ _ z=>ZjC
theorem jb.mY{st:WV}{t:TS}(h:jb X.mY st t):jb X st t:=λpins s σ H D I hw=>
 gL (Zbw H D (I.lL _) hw) (λ_ _ q=>q.nQ) λ_ _ z=>ZjC
end
section
variable {X:Cx}{st:Stmt}{rest:WV}{t u:TS}{e:Expr}{te:TE}{pos:Pos}
def tM:TS:=λD σ H=>W3 H
def nR(t u:TS):TS:=λD σ H=>t {D with nx:=u D} σ H
theorem bp:jb X [] tM:=λ_ _ σ H _ I h=>HH ⟨σ,H,I,h⟩
theorem ao(h1:PS X st t)(h2:jb X rest u):jb X (st::rest) (nR t u):=by
 ext s;refine wpAny_execs_cons (aM (ZqF H {D with nx:=u D} I h) λf s1 q=>?_);cases f with
 |next=>
  obtain⟨σ',H',I',q⟩:=q;exact h2 pins s1 σ' H' D I' q
 |ret v=>exact q
 |brk=>exact q
 |cont=>exact q
theorem ak(h1:PS X st t):jb X [st] t:=by
 ext s;refine wpAny_execs_cons (aM (ZqF H D I h) λf s1 q=>?_);cases f with
 |next=>exact HH q
 |ret v=>exact q
 |brk=>exact q
 |cont=>exact q
theorem Inv.quiet{pins:Zv}{σ:St}{H:Hp}{s:Shared}(I:Zf):interactive X.env=false:=by simp[interactive,I.ok.kind]
def tP(te:TE):TS:=λD σ H=>te σ H λ_ H1=>W3 H1
theorem dU(he:XT)(hs:swapsWith e none pos.line X.env=pure false:=by rfl):PS X (.Expr e pos) (tP te):=by intro pins s σ H D I h;exact wpAny_Expr_any (aM Zae λv s1 ⟨x,H1,I1,r1,q1⟩=>⟨σ,H1,I1,q1⟩) I.quiet hs
def tG(te:TE):TS:=λD σ H=>te σ H D.rt
theorem ay(he:XT):PS X (.Return (some e) pos) (tG te):=by intro pins s σ H D I h;exact wpAny_Return_some (aM Zae λv s1 ⟨x,H1,I1,r1,q1⟩=>⟨x,σ,H1,I1,r1,q1⟩)
def wN:TS:=λD _ H=>D.rt .ba H
def tN(c:TT)(t u:TS):TS:=λD σ H=>c σ H λb H1=>if b=true then t D σ H1 else u D σ H1
theorem bg{c:Expr}{a b:WV}{tc:TT}(hc:PT X c tc)(ha:jb X a t)(hb:jb X b u):PS X (.If c a b pos) (tN tc t u):=by
 ext s;refine wpAny_If ZrJ;cases d with
 |true=>exact Zoy D I1 q1
 |false=>exact ZeH D I1 q1
def ag2:TS:=λ_ _ _=>False
theorem ah5{sts:WV}:jb X sts ag2:=λ_ _ _ _ _ _ h=>h.elim
end
abbrev TG:=V->St->Hp->(St->Hp->Prop)->Prop
abbrev sQ:=List V->St->Hp->(St->Hp->Prop)->Prop
def PG(X:Cx)(target:Expr)(t:TG):Prop:=
 ∀(pins:Zv) (s:Shared) (σ:St) (H:Hp) (v:V) (u:Value) (Q:Zpe),Zf->XS->t v σ H Q->
  wpAny Yd X.A (assign target X.env u) Ztt X.xe s
def Cc(X:Cx)(ts:Ya)(t:sQ):Prop:=
 ∀(pins:Zv) (s:Shared) (σ:St) (H:Hp) (vs:Ze) (us:Zq) (Q:Zpe),Zf->ZaH->t vs σ H Q->
  wpAny Yd X.A (assignInOrder ((assignEach ts X.env).map Z1) us) Ztt X.xe s
abbrev BQ:=V->V->V->Hp->(Hp->Prop)->Prop
def OQ(X:Cx)(t:BQ):Prop:=
 ∀(pins:Zv) (s:Shared) (σ:St) (H:Hp) (o i v:V) (ov iv u:Value) (Q:ZgC),Zf->RelV o ov->RelV i iv->XS->t o i v H Q->
  wpAny Yd X.A (Zp2 u) (λ_ s'=>∃H',VS/\Q H') X.xe s
abbrev vT:=V->V->Hp->VK->Prop
def Cb(X:Cx)(op:Operator)(t:vT):Prop:=
 ∀(pins:Zv) (s:Shared) (σ:St) (H:Hp) (x y:V) (v u:Value) (Q:VK),Zf->W0->XB->t x y H Q->
  wpAny Yd X.A (inplaceOp op v u) Yy X.xe s
section
variable {X:Cx}{pos:Pos}
def kK(i:Nat):TG:=λv σ H Q=>Q (σ.set i VU) H
theorem aio{i:Nat}{x:Str}(hN:X.N.Nodup)(hi:Zc2)(hx:Zam)(hf:X.fn x=true∨X.env.scope.names.lookup x=some .local :=by first |exact .inl rfl|exact .inr rfl|assumption):PG X Zhv Zcq:=by intro pins s σ H v u Q I r h;exact wpAny_assign_Name (Ih I hN hi hx r (λs' I'=>⟨_,H,I',h⟩) hf)
def vB:sQ:=λvs σ H Q=>vs=[]/\Q σ H
def vC(t:TG)(u:sQ):sQ:=λvs σ H Q=>∃v r,vs=v::r/\t v σ H fun σ' H'=>u r σ' H' Q
theorem iZ:Cc X [] vB:=by
 intro pins s σ H vs us Q I r h;obtain⟨e,h⟩:=h;subst e;cases r
 exact assignInOrder_nil ⟨σ,H,I,h⟩
theorem dn{e:Expr}{es:Ya}{t:TG}{u:sQ}(h1:PG X e t)(h2:Cc X es u)
  (hs:(assignEach ZbZ X.env).map Z1=assign e X.env::(ZfG X.env).map Z1:=by rfl):Cc X ZbZ (vC t u):=by
 intro pins s σ H vs us Q I r h;obtain⟨v,vr,e1,h⟩:=h;subst e1;cases r with
 |cons r rr=>
  rw[hs];refine assignInOrder_cons (aM (ZqF H _ _ _ I r h) λ_ s1 ⟨σ1,H1,I1,q1⟩=>?_);exact h2 pins s1 σ1 H1 _ _ Q I1 rr q1
def sG(K:PySem.W.Frag)(n:Nat)(t:sQ):TG:=λv σ H Q=>∃a xs,v=.ref a/\VL/\xs.length=n/\t xs σ H Q
theorem ain{es:Ya}{k:Nat}{t:sQ}{n:Nat}(hc:Xz)(h:Cc X es t)
  (hn:(ZfG X.env).length =n:=by rfl) (aT:(ZfG X.env).findIdx? Zg=none:=by rfl):Zxe (sG X.K n t):=by
 intro pins s σ H v u Q I r hw;obtain⟨a,xs,e1,hq,hl,hw⟩:=hw;subst e1;cases r
 obtain⟨its,rv,ht,hz⟩:=Zfy;refine assign_Tuple_tuple YV ht (by simp[hn,←hl,rv.length]) aT λh' hx=>?_;have I1:ZQ H {s with heap:=h'}:=I.kept (t':=s.toks) λb o e=>hx b o ZkU e;exact h pins _ σ H xs _ Q I1 (by simpa using rv) hw
def vA(to ti:TE)(t:BQ):TG:=λv σ H Q=>to σ H λo H1=>ti σ H1 λi H2=>t o i v H2 λH3=>Q σ H3
theorem Ki{o i:Expr}{to ti:TE}{t:BQ}(ho:UT)(hi:Zu i ti)(hs:OQ X t)
  (ha:∀v,assign (Zar pos) X.env v=(do
   let ov←holding [v] Us;let iv←holding [v,ov] (eval i X.env)
   standAt pos
   holding [v,ov,iv] (Zp2 v)
   release [v,ov,iv] []):=by intro _;rfl):PG X (.Subscript o i pos) (vA to ti t):=by
 intro pins s σ H v u Q I r h;rw[ha];refine aj (nN (aM ZcC λov s1 ⟨x,H1,I1,r1,q1⟩=>?_));refine aj (nN (aM ZhK λiv s2 ⟨y,H2,I2,r2,q2⟩=>?_));refine aj (Cy (aj (nN (aM (hs pins s2 σ H2 x y v ov iv u _ I2 r1 r2 r q2) λ_ s3 ⟨H3,I3,q3⟩=>?_))));exact wpAny_release ⟨σ,H3,I3,q3⟩
def mN(te:TE)(g:TG):TS:=λD σ H=>te σ H λx H1=>g x σ H1 D.nx
theorem Kf{tg e:Expr}{te:TE}{g:TG}(he:XT)(hg:PG X tg g)(hs:swapsWithSole [tg] e pos.line X.env=pure false:=by rfl)(hw:swappedStores [tg] e X.env=pure none:=by rfl)
  (h1:(assignEach [tg] X.env).map Z1=[assign tg X.env]:=by rfl):PS X (.Assign [tg] e pos) (mN te g):=by
 ext s;refine wpAny_Assign_stores ZsB hs hw;rw[h1];exact aM (hg pins s1 σ H1 x v _ I1 r1 q1) λ_ s2 q=>q
theorem ah8{i:Nat}{x:Str}{e:Expr}{te:TE}{pos':Pos}(hN:X.N.Nodup)(hi:Zc2)(hx:Zam)(he:XT)(hs:Zst X.env=pure false:=by rfl)(hf:X.fn x=true∨X.env.scope.names.lookup x=some .local :=by first |exact .inl rfl|exact .inr rfl|assumption):
  PS X Zt3 (mN te Zcq):=by
 ext s;refine wpAny_Assign_Name (aM Zae λv s1 ⟨y,H1,I1,r1,q1⟩=>?_) hs;exact Ih I1 hN hi hx r1 (λs2 I2=>⟨_,H1,I2,q1⟩) hf
def qN(i:Nat)(te:TE)(ti:vT):TS:=λD σ H=>∃x,σ[i]? =some (some x)/\te σ H λy H1=>ti x y H1 λz H2=>D.nx (σ.set i (some z)) H2
theorem aib{i:Nat}{x:Str}{e:Expr}{te:TE}{op:Operator}{ti:vT}{pos':Pos}(hN:X.N.Nodup)(hi:Zc2)(hx:Zam)(he:XT)(ho:Cb X op ti)(hf:X.fn x=true∨X.env.scope.names.lookup x=some .local :=by first |exact .inl rfl|exact .inr rfl|assumption):
  PS X ZsX (qN i te ti):=by
 ext s;obtain⟨v,e1,h⟩:=h;ext az;have vis:Zfx x:=by rcases hx with k|k;exact Zd3;exact .inr Zd3
 obtain⟨u,r,l⟩:=hl i x v hi e1 vis;refine wpAny_AugAssign_Name ?_;have go:Yt Yv (λw s₂=>Yt (inplaceOp op u w) (λr s₃=>Yt (storeName X.env x r) (λ_=>ZfP .next) X.xe s₃) X.xe s₂) X.xe s:=by refine aM Zae λw s1 ⟨y,H1,I1,r1,q1⟩=>?_;refine aM (ZiR v y u w _ I1 r r1 q1) λz s2 ⟨zv,H2,I2,r2,q2⟩=>?_;exact Ih I2 hN hi hx r2 (λs3 I3=>⟨_,H2,I3,q2⟩) hf
 rcases l with⟨hk,hm⟩|⟨hk,c,hc,hcell⟩
 ·exact ZxH go
 ·rcases hk with hk|hk
  ·exact ZsG go
  ·rcases hx with k|k
   ·ext cf
   ·ext cf
def tV(to ti te:TE)(CP:ZmV)(CO:vT)(CK:BQ):TS:=λD σ H=>to σ H λo H1=>ti σ H1 λi H2=>CP o i H2 λx H3=>te σ H3 λy H4=>CO x y H4 λz H5=>CK o i z H5 λH6=>W3 H6
def aeM(X:Cx)(t:ZmV):Prop:=
 ∀(pins:Zv) (s:Shared) (σ:St) (H:Hp) (o i:V) (ov iv:Value) (Q:VK),Zf->RelV o ov->RelV i iv->t o i H Q->
  wpAny Yd X.A (getItem ov iv) Yy X.xe s
theorem aia{o i e:Expr}{to ti te:TE}{CP:ZmV}{CO:vT}{CK:BQ}{op:Operator}{fQ:Pos}(ho:UT)(hi:Zu i ti)(hg:aeM X CP)(he:XT)(hp:Cb X op CO)(hs:OQ X CK)
  (ha:∀ov iv new,augStore i ov iv new=(do holding [new,ov,iv] (Zp2 new);release [new,ov,iv] [];pure .next):=by intros;rfl):PS X (.AugAssign (Zar fQ) op e pos) (tV to ti te CP CO CK):=by
 ext s;refine wpAny_AugAssign_SubscriptAny (aM ZcC λov s1 ⟨x1,H1,I1,r1,q1⟩=>?_) ha;refine aM ZhK λiv s2 ⟨x2,H2,I2,r2,q2⟩=>?_;refine aM (hg pins s2 σ H2 x1 x2 ov iv _ I2 r1 r2 q2) λold s3 ⟨x3,H3,I3,r3,q3⟩=>?_;refine aM (he pins s3 σ H3 _ I3 q3) λv s4 ⟨x4,H4,I4,r4,q4⟩=>?_;refine aM (hp pins s4 σ H4 x3 x4 old v _ I4 r3 r4 q4) λnew s5 ⟨x5,H5,I5,r5,q5⟩=>?_;exact aM (hs pins s5 σ H5 x1 x2 x5 ov iv new _ I5 r1 r2 r5 q5) λ_ s6 ⟨H6,I6,q6⟩=>⟨σ,H6,I6,q6⟩
def rR(f:ZoQ):vT:=λx y H Q=>∃i j,x=.int i/\y=.int j/\Q (.int (f i j)) H
theorem ab6:Cb X .Add (rR λi j=>i+j):=by intro pins s σ H x y v u Q I r1 r2 h;obtain⟨i,j,e1,e2,q⟩:=h;subst e1;subst e2;obtain⟨t,rfl⟩:=r1;obtain⟨t',rfl⟩:=r2;exact iadd_int ZcG
theorem al6:Cb X .Sub (rR λi j=>i-j):=by intro pins s σ H x y v u Q I r1 r2 h;obtain⟨i,j,e1,e2,q⟩:=h;subst e1;subst e2;obtain⟨t,rfl⟩:=r1;obtain⟨t',rfl⟩:=r2;exact isub_int ZcG
end
section
variable {X:Cx}{pos:Pos}
def Qj(c:TT)(tb:TS):TS:=λD σ H=>∃W:Nat->St->Hp->Prop,(∃m,W m σ H)/\∀m σ H,W m σ H->
 c σ H λb H1=>if b=true then∃N:St->Hp->Prop,(∀σ' H',N σ' H'->∃m',m'<m/\W m' σ' H')/\tb {D with nx:=N,ct:=N,bk:=D.nx} σ H1 else W3 H1
theorem Ke{c:Expr}{body:WV}{tc:TT}{tb:TS}(hp:Zu9)(hc:PT X c tc)(hb:jb X body tb):PS X (.While c body [] pos) (Qj tc tb):=by
 ext s;obtain⟨W,⟨m0,w0⟩,turn⟩:=h;refine wpAny_While (codeAny_whileLoop (λn s'=>∃σ' H',Zbg/\W n σ' H') ?_ m0 ⟨σ,H,I,w0⟩);rintro n s1 ⟨σ1,H1,I1,w1⟩;refine wI hp (aM (hc pins s1 σ1 H1 _ I1 (turn n σ1 H1 w1)) λb s2 ⟨H2,I2,q2⟩=>?_);cases b with
 |true=>
  obtain⟨N,hN,q2⟩:=q2;rw[af rfl];refine wI hp (aM (hb pins s2 σ1 H2 _ I2 q2) λf s3 q3=>?_);cases f with
  |next=>
   ext bZ
  |cont=>
   ext bZ
  |brk=>exact q3
  |ret v=>exact q3
 |false=>
  rw[ae eh];exact HH ⟨σ1,H2,I2,q2⟩
end
structure It where
 go:Nat->Hp->Prop
 o4:Nat->Hp->V->Hp->Prop
 stop:Nat->Hp->Prop
def mG(X:Cx)(pins:Zv)(H:Hp)(b:Addr):Prop:=
 H b=none/\b≠X.env.locals/\b∉X.fs/\(b∈X.ex∨X.gM.heap.objs.size<=b)/\(∀x c,X.env.cells.lookup x=some c->c≠b)/\∀p∈X.pn++pins,p.1≠b
theorem Inv.qg{X:Cx}{pins:Zv}{σ:St}{H H':Hp}{s:Shared}{b:Addr}(I:Zf)(hb:s.heap.objs.size<=b)(hn:H' b=none):Zc3 H' b:=by
 refine⟨hn,oR (hX I.lt hb),I.akD hb,.inr (cq I.sz hb),λx c e z=>?_,λp hp z=>?_⟩
 ·obtain⟨v,q⟩:=Zgj e;exact absurd (hX q.lt (by rw[z];exact hb)) Vu
 ·exact absurd (hX (bT (Zec hp).1) (by rw[z];exact hb)) Vu
structure Turn(P:Program)(w:World)(K:PySem.W.Frag)(tg:Expr)(J:It)(fp:Zy)(it:Addr)(tn:Ziz):Prop where
 mem:it∈fp
 obj:∀i h,tn i h->∀b∈fp,∃o,h.get? b=some o/\∀v,o.data≠.cell v
 keep:∀i h h',tn i h->(∀b∈fp,∀o,h.get? b=some o->h'.get? b=some o)->tn i h'
 item:∀(X:Cx),X.prog=P->X.w=w->X.K=K->X.calm=true->∀(i:Nat) (pins:Zv) (s:Shared) (σ:St) (H:Hp) (E:Zt),Zf->(∀b∈fp,Zef)->tn i s.heap->U2 H->
  wpAny Zdr X.A ZpY (λr s1=>∃u,r=some u/\
   wpAny (model P w) X.A (letOwnedTupleGo tg (.ref it) u) (λ_ s2=>∃x H',Inv X pins σ H' s2/\RelV x u/\J.o4 i H x H'/\tn (i+1) s2.heap/\∀b∈fp,H' b=none) E s1) E s
 done:∀(X:Cx),X.prog=P->X.w=w->X.K=K->X.calm=true->∀(i:Nat) (pins:Zv) (s:Shared) (σ:St) (H:Hp) (E:Zt),Zf->(∀b∈fp,Zef)->tn i s.heap->ZdQ H->
  wpAny Zdr X.A ZpY (λr s1=>r=none/\ZQ H s1) E s
 self:∀(A:Around) (i:Nat) (s:Shared) (Q:Zt) (E:Zt),tn i s.heap->Q Wq s->wpAny Zdr A (pyIter Wq) Q E s
abbrev TI:=St->Hp->(It->Hp->Prop)->Prop
def OR(X:Cx)(pins:Zv)(σ:St)(tg:Expr)(R:Zi8)(Ld:Value)(s2:Shared):Prop:=
 ∃(it:Addr) (fp:Zy) (tn:Ziz) (J:It) (H':Hp),Ld=.ref it/\ZQ H' s2/\Zxg J fp it tn/\tn 0 s2.heap/\(∀b∈fp,Zc3 H' b)/\R J H'
def PI(X:Cx)(tg iter:Expr)(wi:TI):Prop:=
 ∀(pins:Zv) (s:Shared) (σ:St) (H:Hp) (R:Zi8),Zf->wi σ H R->
  wpAny Yd X.A ZnS (λv s1=>Yt (pyIter v) Znq X.xe s1) X.xe s
theorem yz{M:Model}{A:Around}{E:Zt}{s:Shared}{tg:Expr}{it:Addr}{u:Value}{o:Obj}{n:String}{vs:YN}{Q:Zaj}(ho:s.heap.get? it=some o)(hc:o.cls=.type n)(hd:o.data=.fields vs)
    (hn:["enumerate","zip","dict_itemiterator","dict_reverseitemiterator","odict_iterator","itertools.zip_longest","itertools.pairwise"].contains n=false) (hQ:Q () s):Vl (letOwnedTupleGo tg Wq u) Q E s:=by
  unfold letOwnedTupleGo;cases tg<;>first
    | exact aL hQ
    | (cases u<;>first
        | exact aL hQ
        | (refine aj (wpAny_load ho ?_)
           rw[hc,hd];show wpAny M A (if(["enumerate","zip","dict_itemiterator","dict_reverseitemiterator","odict_iterator","itertools.zip_longest","itertools.pairwise"].contains n&&vs[0]? ==some (rawInt _))=true then _ else _) Q E s;rw[ae (by intro h;rw[hn,gK]at h;cases h)];exact aL hQ))
def wu(K:PySem.W.Frag)(a:Addr):It:=
 ⟨λi H=>∃xs x,YJ/\xs[i]? =some x,λi H x H'=>H'=H/\∀xs,YJ->xs[i]? =some x,λi H=>∃xs,YJ/\xs.length<=i⟩
def Pj(K:PySem.W.Frag)(a:Addr):It:=
 ⟨λi H=>∃xs x,VL/\xs[i]? =some x,λi H x H'=>H'=H/\∀xs,VL->xs[i]? =some x,λi H=>∃xs,VL/\xs.length<=i⟩
def Hi(lo:Int)(n:Nat):It:=⟨λi _=>i<n,λi H x H'=>H'=H/\x=.int (lo+i),λi _=>n<=i⟩
theorem agE{P:Program}{w:World}{K:PySem.W.Frag}{tg:Expr}(a it:Addr):ZfF ZdO [it] it (λi h=>Zfo a i) where
 mem:=by simp
 obj:=λi h st b hb=>by
  have e:b=it:=by simpa using hb
  ext aV
 keep:=λi h h' st k=>st.at λo e=>UX o e
 item:=by intro X hP hw hK hc i pins s σ H E I hf st hg;subst hP hw hK;obtain⟨xs,x,hq,hx⟩:=hg;obtain⟨its,rv,p,hz⟩:=UL;obtain⟨u,hu,ru⟩:=ZgK;obtain⟨f0,f1,f2,f3,f4,f5⟩:=WS;refine wpAny_pyNext_list_item st p.isList (x:=u) Zik λh' gy sb=>?_;have I1:ZQ H {s with heap:=h'}:=Zxi;obtain⟨o,e,c,d⟩:=id gy;exact⟨u,rfl,ZhC d Zk ⟨x,H,I1,ru,⟨rfl,λys hy=>ZvN⟩,gy,λb hb=>(hf b hb).1⟩⟩
 done:=by intro X hP hw hK hc i pins s σ H E I hf st hg;subst hP hw hK;obtain⟨xs,hq,hx⟩:=hg;obtain⟨its,rv,p,hz⟩:=UL;obtain⟨f0,f1,f2,f3,f4,f5⟩:=WS;have hl:=rv.length;exact wpAny_pyNext_list_end YV st p.isList (by simp;omega) λh' eb=>Zeq
 self:=λ_ _ _ _ _ st h=>wpAny_pyIter_listiter st h
theorem agC{P:Program}{w:World}{K:PySem.W.Frag}{tg:Expr}(a it:Addr):ZfF (Pj K a) [it] it (λi h=>h.IsTupleIter it a i) where
 mem:=by simp
 obj:=λi h st b hb=>by
  have e:b=it:=by simpa using hb
  ext aV
 keep:=λi h h' st k=>st.at λo e=>UX o e
 item:=by intro X hP hw hK hc i pins s σ H E I hf st hg;subst hP hw hK;obtain⟨xs,x,hq,hx⟩:=hg;obtain⟨its,rv,p,hz⟩:=Zfy;obtain⟨u,hu,ru⟩:=ZgK;obtain⟨f0,f1,f2,f3,f4,f5⟩:=WS;refine wpAny_pyNext_tuple_item st Zsf (x:=u) Zik λh' gy sb=>?_;have I1:ZQ H {s with heap:=h'}:=Zxi;obtain⟨o,e,c,d⟩:=id gy;exact⟨u,rfl,ZhC d Zk ⟨x,H,I1,ru,⟨rfl,λys hy=>by rw[I.agJ hy hq];exact hx⟩,gy,λb hb=>(hf b hb).1⟩⟩
 done:=by intro X hP hw hK hc i pins s σ H E I hf st hg;subst hP hw hK;obtain⟨xs,hq,hx⟩:=hg;obtain⟨its,rv,p,hz⟩:=Zfy;obtain⟨f0,f1,f2,f3,f4,f5⟩:=WS;have hl:=rv.length;exact wpAny_pyNext_tuple_end YV st Zsf (by simp;omega) λh' eb=>Zeq
 self:=λ_ _ _ _ _ st h=>wpAny_pyIter_tupleiter st h
theorem agD{P:Program}{w:World}{K:PySem.W.Frag}{tg:Expr}(it:Addr)(lo:Int)(n:Nat):ZfF (Hi lo n) [it] it (λi h=>IsRangeIter h it (lo+(i:Nat)*1) ((n:Int)-(i:Nat)) 1) where
 mem:=by simp
 obj:=λi h st b hb=>by
  have e:b=it:=by simpa using hb
  subst e;exact⟨_,st,λv z=>by have z':Data.fields _=Data.cell v:=z;cases z'⟩
 keep:=λi h h' st k=>UX _ st
 item:=by intro X hP hw hK hc i pins s σ H E I hf st hg;subst hP hw hK;obtain⟨f0,f1,f2,f3,f4,f5⟩:=WS;have W:=Walks.range (prog:=X.prog) (w:=X.w) YV it lo 1 n;refine Zpf hg st λv h' tk hv gy kk=>?_;obtain⟨t,rfl⟩:=hv;have I1:ZQ H {s with heap:=h',toks:=tk}:=Zrm;refine⟨_,rfl,ZtS (n:="range_iterator") gy rfl rfl (by decide) ⟨.int (lo+i),H,I1,⟨t,?_⟩,Uy,gy,λb hb=>(hf b hb).1⟩⟩;rw[Int.mul_one]
 done:=by intro X hP hw hK hc i pins s σ H E I hf st hg;subst hP hw hK;obtain⟨f0,f1,f2,f3,f4,f5⟩:=WS;exact wpAny_pyNext_range_end YV st (by have:n<=i:=hg;omega) λh' eb=>Zeq
 self:=λ_ _ _ _ _ st h=>wpAny_pyIter_rangeiter st h
end L2
namespace L2
open PySem PySem.Spec PyProof.Rows
section
variable {X:Cx}{tg:Expr}
def rV(K:PySem.W.Frag)(tl:TE):TI:=fun σ H R=>tl σ H λx H1=>∃a,x=.ref a/\(∃xs,UA)/\R ZdO H1
def rT(K:PySem.W.Frag)(tl:TE):TI:=fun σ H R=>tl σ H λx H1=>∃a,x=.ref a/\(∃xs,bM K H1 a xs)/\R (Pj K a) H1
theorem aik{l:Expr}{tl:TE}(hl:Zu l tl):Zcb l (rV X.K tl):=by
 ext w;refine aM Zwz λv s1 ⟨x,H1,I1,r1,q1⟩=>?_;obtain⟨a,e,⟨xs,hq⟩,q⟩:=q1;subst e;cases r1
 obtain⟨its,rv,p,hz⟩:=I1.list hq;refine qD p.isList ?_;refine⟨s1.heap.objs.size,[s1.heap.objs.size],_,_,H1,rfl,I1.kept (t':=s1.toks) λb o e=>XY,agE a _,ZcF,λb hb=>?_,q⟩;have e:b=s1.heap.objs.size:=by simpa using hb
 ext br
theorem aij{l:Expr}{tl:TE}(hl:Zu l tl):Zcb l (rT X.K tl):=by
 ext w;refine aM Zwz λv s1 ⟨x,H1,I1,r1,q1⟩=>?_;obtain⟨a,e,⟨xs,hq⟩,q⟩:=q1;subst e;cases r1
 obtain⟨its,rv,p,hz⟩:=I1.tuple hq;refine wpAny_pyIter_tuple (show s1.heap.IsTuple a its.toArray from p) ?_;refine⟨s1.heap.objs.size,[s1.heap.objs.size],_,_,H1,rfl,I1.kept (t':=s1.toks) λb o e=>XY,agC a _,ZcF,λb hb=>?_,q⟩;have e:b=s1.heap.objs.size:=by simpa using hb
 ext br
theorem ahW{pins:Zv}{σ:St}{H:Hp}{s:Shared}{R:Zi8}{E:Zt}{lo hi:Int}{t u v:Tok}{tk:Nat}(I:Zf)(h1: -(2 ^ 62)<=lo)(h2:lo<2 ^ 62)(h3: -(2 ^ 62)<=hi)(h4:hi<2 ^ 62)
  (q:R (Hi lo (hi-lo).toNat) H):Yt (pyIter Yn) Znq E {s with heap:=s.heap.push {cls:=.type "range",data:=.fields #[.int lo t,.int hi u,.int 1 v]},toks:=tk}:=by
 refine wpAny_pyIter_range (IsRange.new ..) (small_one h1 h2 h3 h4) ?_;have I1:ZQ H {s with heap:=s.heap.push {cls:=.type "range",data:=.fields #[.int lo t,.int hi u,.int 1 v]},toks:=tk}:=I.kept λb o e=>XY;refine⟨(s.heap.push {cls:=Zjk,data:=.fields #[.int lo t,.int hi u,Vt v]}).objs.size,[(s.heap.push {cls:=Zjk,data:=.fields #[.int lo t,.int hi u,Vt v]}).objs.size],_,_,H,rfl,
  I1.kept (t':=tk) λb o e=>cV _ e,agD _ lo (hi-lo).toNat,?_,λb hb=>?_,q⟩
 ·have e1:lo+((0 :Nat):Int)*1=lo:=by simp
  have e2:(((hi-lo).toNat :Nat):Int)-((0 :Nat):Int)=Builtin.Range.rangeSize lo hi 1:=by rw[rangeSize_one];split<;>omega
  show IsRangeIter _ _ (lo+((0 :Nat):Int)*1) ((((hi-lo).toNat :Nat):Int)-((0 :Nat):Int)) 1;rw[e1,e2];exact dj _ rfl
 ·have e:b=(s.heap.push {cls:=Zjk,data:=.fields #[.int lo t,.int hi u,Vt v]}).objs.size :=by simpa using hb
  ext br
def u4(ta:TA):TI:=fun σ H R=>Xb H λvs H1=>∃j:Int,vs=[.int j]/\ -(2 ^ 62)<=j/\j<2 ^ 62/\R (Hi 0 j.toNat) H1
theorem aao{a:Expr}{ta:TA}{p pos:Pos}(hg:Gl X "range")(hm:X.mg "range"=none)(ha:PA X [a] ta)(hs:starEach [a] X.env=[(false,Zjb)]:=by rfl):Zcb (.Call (.Name "range" p) [a] [] pos) (u4 ta):=by
 ext w;refine Call_ (ZfB boot_range (Zk3 hs rfl));obtain⟨j,e,q1,q2,q⟩:=q1;subst e;cases r1 with
 |cons r rr=>
  cases rr
  ext A;exact call_range_1 (ahW I1 Zb Zb q1 q2 (by simpa using q))
def Ql(wi:TI)(g:TG)(tb:TS):TS:=λD σ H=>wi σ H λJ H1=>∃W:Nat->Nat->St->Hp->Prop,(∃m,W 0 m σ H1)/\∀i m σ H,W i m σ H->
 (ZdQ H/\W3 H)∨(U2 H/\∃N:St->Hp->Prop,(∀σ' H',N σ' H'->∃m',m'<m/\ZgZ σ' H')/\∀x H',Zaz->g x σ H' fun σ2 H2=>tb {D with nx:=N,ct:=N,bk:=D.nx} σ2 H2)
def Ai(fp:Zy)(h:Heap):Zv:=fp.filterMap λb=>(h.get? b).map λo=>(b,o)
theorem KU{fp:Zy}{h:Heap}{b:Addr}{o:Obj}(hb:b∈fp)(e:Zo0):(b,o)∈Ai fp h:=G9.mpr ⟨b,hb,Xo⟩
theorem aku{fp:Zy}{h:Heap}{p:Zf9}(hp:p∈Ai fp h):p.1∈fp/\h.get? p.1=some p.2:=by
 obtain⟨b,hb,e⟩:=G9.mp hp;cases q:h.get? b with
 |none=>rw[q]at e;cases e
 |some o=>
  rw[q]at e;have e':(b,o)=p:=bY e;subst e';exact⟨hb,q⟩
theorem Inv.pinned{pins:Zv}{σ:St}{H:Hp}{s:Shared}{fp:Zy}(I:Zf)(hf:∀b∈fp,Zef)(ho:∀b∈fp,∃o,s.heap.get? b=some o/\∀v,o.data≠.cell v):Inv X (pins++Ai fp s.heap) σ H s:=
 I.aal λp hp=>(b8.mp hp).elim (λz=>Zec (je _ z)) λz=>by obtain⟨hb,e⟩:=aku z;obtain⟨f0,f1,f2,_⟩:=hf p.1 hb;obtain⟨o,e',d⟩:=ho p.1 hb;rw[e]at e';cases e';exact⟨e,f0,f1,f2,d⟩
theorem Inv.CH{pins pl:Zv}{σ:St}{H:Hp}{s:Shared}(I:Inv X (pins++pl) σ H s):Zf:=I.aal λp hp=>Zec (je _ (mz _ hp))
theorem dN{iter:Expr}{body:WV}{wi:TI}{g:TG}{tb:TS}{pos:Pos}(hp:Zu9)(hc:Xz)(hi:Zfl)(hg:PG X tg g)(hb:jb X body tb)
  (hs:∀x,ZeK x=pure x:=by intro _;rfl):PS X (.For tg iter body [] pos) (Ql wi g tb):=by
 ext s;refine wpAny_For (aM ZmJ λv s1 h1=>aM h1 λLd s2 h2=>?_) hs;obtain⟨it,fp,tn,J,H2,e,I2,T,CV,f2,W,⟨m0,w0⟩,turn⟩:=h2;subst e;have t9:∀{H':Hp},(∀b∈fp,H' b=none)->∀b∈fp,Zc3 H' b:=λhn b hb=>⟨hn b hb,(f2 b hb).2⟩;refine codeAny_forLoop_any (λn s'=>∃i σ' H',Zbg/\ZqM/\(∀b∈fp,H' b=none)/\W i n σ' H') ?_ m0 ⟨0,σ,H2,I2,CV,λb hb=>(f2 b hb).1,w0⟩;rintro n s3 ⟨i,σ3,H3,I3,CU,fr3,w3⟩;rcases turn i n σ3 H3 w3 with⟨stop,qn⟩|⟨go,N,hN,step⟩
 ·refine wI hp (aM (T.done X rfl rfl rfl hc i pins s3 σ3 H3 X.xe I3 (t9 fr3) CU stop) λr s4 ⟨hr,I4⟩=>?_);subst hr;exact HH ⟨σ3,H3,I4,qn⟩
 ·refine wI hp (aM (T.item X rfl rfl rfl hc i pins s3 σ3 H3 X.xe I3 (t9 fr3) CU go) λr s4 ⟨u,hr,h4⟩=>?_);subst hr;refine wI hp (aM h4 λ_ s5 ⟨x,H5,I5,r5,y5,st5,fr5⟩=>?_);have I5':=I5.pinned (t9 fr5) (ZgF st5);refine wI hp (aM (hg _ s5 σ3 H5 x u _ I5' r5 (step x H5 y5)) λ_ s6 ⟨σ6,H6,I6,q6⟩=>?_);refine wI hp (aM (hb _ s6 σ6 H6 _ I6 q6) λf s7 q7=>?_);have again:∀{σ7:St} {H7:Hp},Inv X (pins++Ai fp s5.heap) σ7 H7 s7->N σ7 H7->∃m,m<n/\∃i σ' H',Inv X pins σ' H' s7/\tn i s7.heap/\(∀b∈fp,H' b=none)/\W i m σ' H':=λ{σ7 H7} I7 n7=>by obtain⟨m',hm,w7⟩:=hN σ7 H7 n7;refine⟨m',hm,i+1,σ7,H7,I7.CH,ZjD st5 λb hb o e=>(I7.pin (b,o) ZmA).1,λb hb=>?_,w7⟩;obtain⟨o,e,d⟩:=ZgF st5 b hb;exact(I7.pin (b,o) ZmA).2.1
  cases f with
  |next=>obtain⟨σ7,H7,I7,n7⟩:=q7;exact again I7 n7
  |cont=>obtain⟨σ7,H7,I7,n7⟩:=q7;exact again I7 n7
  |brk=>obtain⟨σ7,H7,I7,q7⟩:=q7;exact⟨σ7,H7,I7.CH,q7⟩
  |ret v=>obtain⟨x7,σ7,H7,I7,r7,q7⟩:=q7;exact⟨x7,σ7,H7,I7.CH,r7,q7⟩
end
theorem HP{c:TT}{tb:TS}{D:Ends}{σ:St}{H:Hp}(Pv:Zpe)(μ:St->Hp->Nat)(h0:Pv σ H)
  (hs:∀σ H,Pv σ H->c σ H λb H1=>if b=true then tb {D with nx:=fun σ' H'=>Pv σ' H'/\μ σ' H'<μ σ H,ct:=fun σ' H'=>Pv σ' H'/\μ σ' H'<μ σ H,bk:=D.nx} σ H1 else W3 H1)
  (mono:∀σ H Q Q',(∀b H1,Q b H1->Q' b H1)->c σ H Q->c σ H Q'):Qj c tb D σ H:=by
 refine⟨λm σ H=>m=μ σ H/\Pv σ H,⟨_,rfl,h0⟩,?_⟩;rintro m σ H ⟨rfl,p⟩;refine mono σ H _ _ (λb H1 q=>?_) (hs σ H p);cases b with
 |true=>exact⟨_,fun σ' H' ⟨p',l⟩=>⟨_,l,rfl,p'⟩,q⟩
 |false=>exact q
end L2
namespace L2
open PySem PySem.Spec PyProof.Rows
abbrev R2:=V->V->Hp->VK->Prop
def de(X:Cx)(f:ZeQ)(r:R2):Prop:=
 ∀(pins:Zv) (s:Shared) (σ:St) (H:Hp) (x y:V) (v u:Value) (Q:VK),Zf->W0->XB->r x y H Q->
  wpAny Yd X.A (f v u) Yy X.xe s
def Ov(X:Cx)(f:Value->Sem Value)(r:ZnO):Prop:=
 ∀(pins:Zv) (s:Shared) (σ:St) (H:Hp) (x:V) (v:Value) (Q:VK),Zf->W0->r x H Q->
  wpAny Yd X.A (f v) Yy X.xe s
def gJ(X:Cx)(f:Value)(r:Znf):Prop:=
 ∀(pins:Zv) (s:Shared) (σ:St) (H:Hp) (xs:Ze) (us:Zq) (Q:VK),Zf->WC->r xs H Q->
  wpAny Yd X.A (call f us) Yy X.xe s
def asb(X:Cx)(r:V->Hp->(Bool->Hp->Prop)->Prop):Prop:=
 ∀(pins:Zv) (s:Shared) (σ:St) (H:Hp) (x:V) (v:Value) (Q:Zfh),Zf->W0->r x H Q->
  wpAny Yd X.A (truthy v) ZiJ X.xe s
def mL(r:R2)(ta tb:TE):TE:=fun σ H Q=>Xb H λx H1=>tb σ H1 λy H2=>r x y H2 Q
def tw(r:ZnO)(ta:TE):TE:=fun σ H Q=>Xb H λx H1=>r x H1 Q
def rI(C:Int->Int->Prop)(g:Int->Int->V):R2:=λx y H Q=>∃i j,x=.int i/\y=.int j/\C i j/\Q Zd8 H
def jk(g:Int->Int->V):R2:=λx y H Q=>∃i j,x=.int i/\y=.int j/\Q Zd8 H
def rU(g:Int->V):V->Hp->VK->Prop:=λx H Q=>∃i,x=.int i/\Q (g i) H
section
variable {X:Cx}{a b c:Expr}{ta tb tc:TE}{pos:Pos}
theorem Oh(ha:Wg)(hb:US){pins:Zv}{s:Shared}{σ:St}{H:Hp}{R:V->V->Hp->Prop}(I:Zf)
  (h:ZsP) {Q:Zt} {f:ZeQ}
  (hf:Zrg):
  wpAny Yd X.A Zjb Zrf X.xe s:=by
 refine aM VA λv s1 ⟨x,H1,I1,r1,q1⟩=>?_;refine aM Zfz λu s2 ⟨y,H2,I2,r2,q2⟩=>?_;exact Zvh
theorem cR{op:Operator}{r:R2}(ho:de X (binaryOp op) r)(ha:Wg)(hb:US):Zu (.BinOp a op b pos) Zjw:=by intro pins s σ H Q I h;exact wpAny_BinOp Zrd
theorem air{op:UnaryOp}{r:ZnO}(ho:Ov X (unaryOp op) r)(ha:Wg):Zu (.UnaryOp op a pos) (tw r ta):=by intro pins s σ H Q I h;exact UnaryOp_ (aM VA λv s1 ⟨x,H1,I1,r1,q1⟩=>ZiR x v Q I1 r1 q1)
theorem opI{f:ZeQ}{C:Int->Int->Prop}{g:ZoQ}
  (rule:∀(i j:Int) (t u:Tok) (s:Shared) (Q:Zt) (E:Zt),C i j->Q (Zft s.toks) {s with toks:=s.toks+1}->ZlM):
  de X f (rI C λi j=>Zft):=by
 ext m;obtain⟨i,j,rfl,rfl,hc,q⟩:=h;ext h;ext N;exact Znz hc Zyd
theorem Ed{f:ZeQ}{g:ZoQ}
  (rule:∀(i j:Int) (t u:Tok) (s:Shared) (Q:Zt) (E:Zt),Q (Zft s.toks) {s with toks:=s.toks+1}->ZlM):
  de X f (jk λi j=>Zft):=by
 ext m;obtain⟨i,j,rfl,rfl,q⟩:=h;ext h;ext N;exact Znz Zyd
theorem Ee{f:ZeQ}{g:Int->Int->Bool}
  (rule:∀(i j:Int) (t u:Tok) (s:Shared) (Q:Zt) (E:Zt),Q (.bool Zd8) s->ZlM):
  de X f (jk λi j=>.bl Zd8):=by
 ext m;obtain⟨i,j,rfl,rfl,q⟩:=h;ext h;ext N;exact Znz ⟨.bl Zd8,H,I,rfl,q⟩
def atw(i j:Int):Prop:=0<=j/\j<=1000000/\i.natAbs<2 ^ 64
def Pz(i j:Int):Prop:=(-(2 ^ 64)<i/\i<2 ^ 64)∨(-(2 ^ 64)<j/\j<2 ^ 64)
theorem Pz.ok{i j:Int}(h:Pz i j):IntMulOk i j:=by
 rcases h with⟨h1,h2⟩|⟨h1,h2⟩
 ·exact .of_left ZwW
 ·exact .of_right ZwW
theorem n_:Znj (jk λi j=>.int (i+j)):=Ed λ_ _ _ _ _ _ _ q=>add_int q
theorem rD:de X (binaryOp .Sub) (jk λi j=>.int (i-j)):=Ed λ_ _ _ _ _ _ _ q=>sub_int q
theorem aiR:Zx2 (rI Pz λi j=>.int (i*j)):=opI λ_ _ _ _ _ _ _ hc q=>mul_int q hc.ok
theorem aiM:de X (binaryOp .LShift) (rI atw λi j=>.int (i*2 ^ j.toNat)):=opI λ_ _ _ _ _ _ _ hc q=>lshift_int_small hc.1 hc.2.1 hc.2.2 q
theorem aiU:de X (binaryOp .BitAnd) (jk λi j=>.int (Builtin.bitAnd i j)):=Ed λ_ _ _ _ _ _ _ q=>and_int q
theorem aaH:de X (binaryOp .BitOr) (jk λi j=>.int (Builtin.bitOr i j)):=Ed λ_ _ _ _ _ _ _ q=>or_int q
theorem unI{f:Value->Sem Value}{g:Int->Int}
  (rule:∀(i:Int) (t:Tok) (s:Shared) (Q:Zt) (E:Zt),Q (.int (g i) s.toks) {s with toks:=s.toks+1}->Yt (f Zcd) Q E s):
  Ov X f (rU λi=>.int (g i)):=by
 intro pins s σ H x v Q I rx h;obtain⟨i,rfl,q⟩:=h;ext h;exact rule i t s _ _ ⟨.int (g i),H,YL,Zs,q⟩
theorem agy:Ov X (unaryOp .USub) (rU λi=>.int (-i)):=unI λ_ _ _ _ _ q=>neg_int q
end
def qR:V->V->Bool
 | .ba,.ba =>true| .ba,.int _=>true| .int _,.ba =>true| .ba,.bl _=>true| .bl _,.ba =>true| .ba,.str _=>true| .str _,.ba =>true
 | .int _,.int _=>true| .bl _,.bl _=>true| .str _,.str _=>true| .gr _,.gr _=>true
 | .int _,.str _=>true| .str _,.int _=>true| .bl _,.str _=>true| .str _,.bl _=>true
 |_,_=>false
def ux:R2:=λx y H Q=>qR x y=true/\Q (.bl (decide (x=y))) H
def qX:R2:=λx y H Q=>qR x y=true/\Q (.bl (!decide (x=y))) H
theorem adQ{i j:Int}:decide (V.int i=V.int j)=(i==j):=by rw[iS];simp
theorem adS{i j:Bool}:decide (V.bl i=V.bl j)=(i==j):=by rw[iS];simp
theorem adP{i j:Str}:decide (V.str i=V.str j)=(i==j):=by rw[iS];simp
theorem adR{i j:Array UInt8}:decide (V.gr i=V.gr j)=(i.toList==j.toList):=by
 rw[iS];cases i
 cases j
 simp
section
variable {X:Cx}{a b c:Expr}{ta tb tc:TE}{pos:Pos}
theorem dC{pins:Zv}{σ:St}{H:Hp}{s:Shared}{Q:VK}{k k':Bool}(I:Zf)(q:Q (.bl k) H)(e:k=k'):Yy (.bool k') s:=by subst e;exact⟨.bl k,H,I,rfl,q⟩
theorem cS:de X (compareOp .Eq) ux:=by
 ext m;obtain⟨hs,q⟩:=h;cases x with
 |ba=>
  cases rx
  cases y with
  |ba=>cases ry;exact PySem.EqNone.eq_none_none YK
  |bl j=>cases ry;exact PySem.EqNone.eq_none_bool YK
  |int j=>obtain⟨t',rfl⟩:=ry;exact PySem.EqNone.eq_none_int YK
  |str j=>obtain⟨t',rfl⟩:=ry;exact PySem.EqNone.eq_none_str YK
  |_=>exact WI
 |bl i=>
  cases rx
  cases y with
  |ba=>cases ry;exact PySem.EqNone.eq_bool_none YK
  |bl j=>cases ry;exact eq_bool (Vw adS)
  |str j=>obtain⟨t',rfl⟩:=ry;exact PySem.EqMixed.eq_bool_str YK
  |_=>exact WI
 |int i=>
  ext h;cases y with
  |ba=>cases ry;exact PySem.EqNone.eq_int_none YK
  |int j=>obtain⟨t',rfl⟩:=ry;exact eq_int (Vw adQ)
  |str j=>obtain⟨t',rfl⟩:=ry;exact PySem.EqMixed.eq_int_str YK
  |_=>exact WI
 |str i=>
  ext h;cases y with
  |ba=>cases ry;exact PySem.EqNone.eq_str_none YK
  |bl j=>cases ry;exact PySem.EqMixed.eq_str_bool YK
  |int j=>obtain⟨t',rfl⟩:=ry;exact PySem.EqMixed.eq_str_int YK
  |str j=>obtain⟨t',rfl⟩:=ry;exact eq_str (Vw adP)
  |_=>exact WI
 |gr i=>
  ext h;cases y with
  |gr j=>obtain⟨t',rfl⟩:=ry;exact PySem.W.eq_bytes (Vw adR)
  |_=>exact WI
 |_=>cases y<;>exact WI
theorem xx:ZmH qX:=by
 ext m;obtain⟨hs,q⟩:=h;cases x with
 |ba=>
  cases rx
  cases y with
  |ba=>cases ry;exact PySem.EqNone.ne_none_none YK
  |bl j=>cases ry;exact PySem.EqNone.ne_none_bool YK
  |int j=>obtain⟨t',rfl⟩:=ry;exact PySem.EqNone.ne_none_int YK
  |str j=>obtain⟨t',rfl⟩:=ry;exact PySem.EqNone.ne_none_str YK
  |_=>exact WI
 |bl i=>
  cases rx
  cases y with
  |ba=>cases ry;exact PySem.EqNone.ne_bool_none YK
  |bl j=>cases ry;exact ne_bool (Vw (cb not adS))
  |str j=>obtain⟨t',rfl⟩:=ry;exact PySem.EqMixed.ne_bool_str YK
  |_=>exact WI
 |int i=>
  ext h;cases y with
  |ba=>cases ry;exact PySem.EqNone.ne_int_none YK
  |int j=>obtain⟨t',rfl⟩:=ry;exact ne_int (Vw (cb not adQ))
  |str j=>obtain⟨t',rfl⟩:=ry;exact PySem.EqMixed.ne_int_str YK
  |_=>exact WI
 |str i=>
  ext h;cases y with
  |ba=>cases ry;exact PySem.EqNone.ne_str_none YK
  |bl j=>cases ry;exact PySem.EqMixed.ne_str_bool YK
  |int j=>obtain⟨t',rfl⟩:=ry;exact PySem.EqMixed.ne_str_int YK
  |str j=>obtain⟨t',rfl⟩:=ry;exact ne_str (Vw (cb not adP))
  |_=>exact WI
 |gr i=>
  ext h;cases y with
  |gr j=>obtain⟨t',rfl⟩:=ry;exact PySem.W.ne_bytes (Vw (cb not adR))
  |_=>exact WI
 |_=>cases y<;>exact WI
theorem rE:de X (compareOp .Lt) (jk λi j=>.bl (decide (i<j))):=Ee λ_ _ _ _ _ _ _ q=>lt_int q
theorem n9:de X (compareOp .LtE) (jk λi j=>.bl (decide (i<=j))):=Ee λ_ _ _ _ _ _ _ q=>le_int q
theorem pG:de X (compareOp .Gt) (jk λi j=>.bl (decide (j<i))):=Ee λ_ _ _ _ _ _ _ q=>gt_int q
theorem Ku:de X (compareOp .GtE) (jk λi j=>.bl (decide (j<=i))):=Ee λ_ _ _ _ _ _ _ q=>ge_int q
theorem Ks:de X (compareOp .Is) (λx y H Q=>y=.ba /\Q (.bl (decide (x=.ba))) H):=by
 ext m;obtain⟨rfl,q⟩:=h;cases ry
 refine is_none_gen (Vw ?_);cases x<;>first
  |(cases rx;rfl)
  |(obtain⟨t,rfl⟩:=rx;rfl)
theorem aaI:de X (compareOp .IsNot) (λx y H Q=>y=.ba /\Q (.bl (!decide (x=.ba))) H):=by
 ext m;obtain⟨rfl,q⟩:=h;cases ry
 refine isnot_none_gen (Vw ?_);cases x<;>first
  |(cases rx;rfl)
  |(obtain⟨t,rfl⟩:=rx;rfl)
theorem bB(b:Expr){op:CmpOp}(h:op≠.In :=by decide)(h2:op≠.NotIn :=by decide):ZiQ b=false:=by
 have e1:(op==CmpOp.In)=false:=by cases op<;>first |rfl|exact absurd rfl h
 have e2:(op==CmpOp.NotIn)=false:=by cases op<;>first |rfl|exact absurd rfl h2
 cases b<;>simp[behindInMarks,e1,e2]
theorem eE{op:CmpOp}{r:R2}(ho:Zic)(ha:Wg)(hb:US)(hm:ZiQ b=false):Zu Zme Zjw:=by intro pins s σ H Q I h;exact wpAny_Compare1 Zrd hm
def pf(t:TE):TT:=fun σ H Q=>t σ H λx H'=>∃k,x=.bl k/\Q k H'
theorem bN{op:CmpOp}{r:R2}(ho:Zic)(ha:Wg)(hb:US)(hm:ZiQ b=false):PT X Zme (pf Zjw):=by
 ext f;refine wpAny_isTrue_Compare1 (aM VA λv s1 ⟨x,H1,I1,r1,q1⟩=>aM Zfz λu s2 ⟨y,H2,I2,r2,q2⟩=>
  aM (ho pins s2 σ H2 x y v u _ I2 r1 r2 q2) λc s3 ⟨z,H3,I3,r3,k,e,q3⟩=>?_) hm
 subst e;cases r3
 exact qC ⟨H3,I3,q3⟩
def qJ(r r':R2)(ta tb tc:TE):TE:=fun σ H Q=>Xb H λx H1=>tb σ H1 λy H2=>r x y H2 λz H3=>∃k,z=.bl k/\
 (if k=true then tc σ H3 λw' H4=>r' y w' H4 Q else Q ZaE H3)
theorem D6{op uG:CmpOp}{r r':R2}(ho:Zic)(kD:Zxm)(ha:Wg)(hb:US)(hc:Zu c tc)
  (hm:lastMarks [op,uG] [b,c]=false:=by with_unfolding_all rfl):Zu Zt5 ZyE:=by
 ext f;refine Compare_chain (aM VA λv s1 ⟨x,H1,I1,r1,q1⟩=>chain_link (aM Zfz λu s2 ⟨y,H2,I2,r2,q2⟩=>
  aM (ho pins s2 σ H2 x y v u _ I2 r1 r2 q2) λd s3 ⟨z,H3,I3,r3,k,e,q3⟩=>?_)) hm
 subst e;cases r3
 refine qC ?_;cases k with
 |false=>exact ite_ff ⟨ZaE,H3,I3,rfl,q3⟩
 |true=>exact ite_tt (chain_last (aM Zvf λw' s4 ⟨z',H4,I4,r4,q4⟩=>ZvR Q I4 r2 r4 q4))
theorem Kd{op uG:CmpOp}{r r':R2}(ho:Zic)(kD:Zxm)(ha:Wg)(hb:US)(hc:Zu c tc)
  (hm:lastMarks [op,uG] [b,c]=false:=by with_unfolding_all rfl):PT X Zt5 (pf ZyE):=by
 ext f;refine isTrue_chain (aM VA λv s1 ⟨x,H1,I1,r1,q1⟩=>test_link (aM Zfz λu s2 ⟨y,H2,I2,r2,q2⟩=>
  aM (ho pins s2 σ H2 x y v u _ I2 r1 r2 q2) λd s3 ⟨z,H3,I3,r3,k,e,q3⟩=>?_)) hm
 subst e;cases r3
 refine qC ?_;cases k with
 |false=>
  obtain⟨k',e',q'⟩:=q3;cases e'
  exact ite_ff ⟨H3,I3,q'⟩
 |true=>
  refine ite_tt (test_last (aM Zvf λw' s4 ⟨z',H4,I4,r4,q4⟩=>aM (ZvR _ I4 r2 r4 q4) λd' s5 ⟨z2,H5,I5,r5,k2,e2,q5⟩=>?_));subst e2;cases r5
  exact qC ⟨H5,I5,q5⟩
def yY(K:PySem.W.Frag)(x:V)(H:Hp)(k:Bool):Prop:=
 match x with
 | .ba =>k=false
 | .bl b=>k=b
 | .int i=>k=(i != 0)
 | .str y=>y.length<=sizeLine/\k=((y.length:Int) != 0)
 | .gr y=>y.size<=sizeLine/\k=((y.size:Int) != 0)
 | .ref p=>(∃xs,Zg0/\k= !xs.isEmpty)∨(∃xs,Vv p xs/\k= !xs.isEmpty)∨∃kvs,H p=some YA/\k= !kvs.isEmpty
 |_=>False
theorem al4{κ:Type}{kvs:XN}{vs:Zap}(r:XO):(!vs.isEmpty)= !kvs.isEmpty:=by cases r<;>rfl
theorem ab5{xs:Ze}{its:Zq}(r:UZ):(!its.toArray.isEmpty)= !xs.isEmpty:=by cases r<;>simp
theorem uR:(sizeLine:Nat)<2 ^ 63:=by rw[zQ];decide
theorem agK:asb X (λx H Q=>∃k,yY X.K x H k/\Q k H):=by
 intro pins s σ H x v Q I rx h;obtain⟨k,e,q⟩:=h;ext di;cases x with
 |ba=>
  cases rx
  have e':k=false:=e;subst e';exact truthy_none ⟨H,I,q⟩
 |bl b=>
  cases rx
  have e':k=b:=e;subst e';exact qC ⟨H,I,q⟩
 |int i=>
  ext h;have e':k=(i != 0):=e;subst e';exact PySem.P.truthy_int ⟨H,I,q⟩
 |str y=>
  ext h;obtain⟨hy,e'⟩:y.length<=sizeLine/\k=((y.length:Int) != 0):=e;subst e';exact PySem.P.truthy_str Zb ⟨H,YL,q⟩
 |gr y=>
  ext h;obtain⟨hy,e'⟩:y.size<=sizeLine/\k=((y.size:Int) != 0):=e;subst e';exact PySem.W.truthy_bytes Zb ⟨H,YL,q⟩
 |ref p=>
  cases rx
  have e':(∃xs,ZaY p xs/\k= !xs.isEmpty)∨(∃xs,ZaZ p xs/\k= !xs.isEmpty)∨∃kvs,H p=some YA/\k= !kvs.isEmpty:=e;rcases e' with⟨xs,hx,e'⟩|⟨xs,hx,e'⟩|⟨kvs,hx,e'⟩
  ·subst e';obtain⟨its,r,pl,hz⟩:=I.list hx;have hlen:=r.length;exact wpAny_truthy_list pl.isList (by simp only[dR];omega) Zud
  ·subst e';obtain⟨its,r,pl,hz⟩:=I.tuple hx;have hlen:=r.length;exact truthy_tuple pl (by simp only[dR];omega) Zud
  ·subst e';obtain⟨hz,hS,vs,r,m⟩:kvs.length<=sizeLine/\(p==sysModules)=false/\∃vs,XO/\s.heap.DictOf Zbu p vs:=ZgW hx;have hlen:kvs.length=vs.length:=y6 r;exact wpAny_truthy_dict hS m Zb ⟨H,YL,by rw[al4 r];exact q⟩
 |_=>exact(show False from e).elim
theorem ah4(ha:Wg)(he:Zrb):
  PT X a (fun σ H Q=>Xb H λx H'=>∃k,yY X.K x H' k/\Q k H'):=by
 ext f;exact isTrue_plain (aM VA λv s1 ⟨x,H1,I1,r1,q1⟩=>agK pins s1 σ H1 x v Q I1 r1 q1) (he _)
theorem aiV:Znj (λx y H Q=>∃i j,x=.str i/\y=.str j/\i.length+j.length<=sizeLine/\Q (.str (i++j)) H):=by intro pins s σ H x y v u Q I rx ry h;obtain⟨i,j,rfl,rfl,hz,q⟩:=h;obtain⟨t,rfl⟩:=rx;obtain⟨t',rfl⟩:=ry;exact add_str (λt' tk=>⟨.str (i++j),H,YL,Zs,q⟩) hz
theorem o6{x:V}{us:Zq}(r:Vals [x] us):∃u,us=[u]/\Zck u:=by
 cases r with
 |cons r1 r2=>cases r2;exact⟨_,rfl,r1⟩
theorem vals2{x y:V}{us:Zq}(r:Vals [x,y] us):∃u w',us=[u,w']/\Zck u/\RelV y w':=by
 cases r with
 |cons r1 r2=>
  cases r2 with
  |cons r3 r4=>cases r4;exact⟨_,_,rfl,r1,r3⟩
theorem ari(hc:Xz):YR (.builtin "max") (λxs H Q=>∃i j,xs=[.int i,.int j]/\Q (.int (if j>i then j else i)) H):=by
 ext z;ext b9;refine max_two_ints YV λh' tk k=>Zw7;by_cases hj:j>i
 ·rw[af hj,af hj];exact Zs
 ·rw[ae hj,ae hj];exact Zs
theorem arh(hc:Xz):YR Zn2 (λxs H Q=>∃i j,xs=[.int i,.int j]/\Q (.int (if j<i then j else i)) H):=by
 ext z;ext b9;refine min_two_ints YV λh' tk k=>Zw7;by_cases hj:j<i
 ·rw[af hj,af hj];exact Zs
 ·rw[ae hj,ae hj];exact Zs
theorem aq9:YR (.type "str") (λxs H Q=>∃i,xs=[.int i]/\i.natAbs.log2<1920/\Q (.str (toString i)) H):=by intro pins s σ H xs us Q I r h;obtain⟨i,rfl,hz,q⟩:=h;obtain⟨u,rfl,t,rfl⟩:=o6 r;exact PySem.P.str_of_int hz ⟨.str _,H,YL,Zs,q⟩
theorem arf:YR (.builtin "ord") (λxs H Q=>∃x,xs=[.str x]/\x.length=1/\Q (.int (x.cps.getD 0 0 :Nat)) H):=by intro pins s σ H xs us Q I r h;obtain⟨x,rfl,hz,q⟩:=h;obtain⟨u,rfl,t,rfl⟩:=o6 r;exact ord_of_one hz ZcG
def oW(K:PySem.W.Frag)(x:V)(H:Hp)(n:Nat):Prop:=
 match x with
 | .str y=>y.length<=sizeLine/\n=y.length
 | .gr y=>y.size<=sizeLine/\n=y.size
 | .ref p=>(∃xs,Zg0/\n=xs.length)∨∃xs,Vv p xs/\n=xs.length
 |_=>False
theorem arn:YR ZiF (λxs H Q=>∃x n,xs=[x]/\oW X.K x H n/\Q Zd4 H):=by
 ext z;obtain⟨x,n,rfl,e,q⟩:=h;obtain⟨u,rfl,rx⟩:=o6 r;ext di;cases x with
 |str y=>
  ext h;obtain⟨hy,e'⟩:y.length<=sizeLine/\n=y.length:=e;subst e';exact len_str Zb ZcG
 |gr y=>
  ext h;obtain⟨hy,e'⟩:y.size<=sizeLine/\n=y.size:=e;subst e';exact PySem.W.len_bytes Zb ZcG
 |ref p=>
  cases rx
  have e':(∃xs,ZaY p xs/\n=xs.length)∨∃xs,ZaZ p xs/\n=xs.length:=e;rcases e' with⟨xs,hx,e'⟩|⟨xs,hx,e'⟩
  ·subst e';obtain⟨its,r',pl,hz⟩:=I.list hx;ext aJ;exact Calls.call_len_list pl.isList (by simp only[dR];omega) Zrs
  ·subst e';obtain⟨its,r',pl,hz⟩:=I.tuple hx;ext aJ;exact len_tuple pl (by simp only[dR];omega) Zrs
 |_=>exact(show False from e).elim
end
end L2
namespace L2
open PySem PySem.Spec PyProof.Rows
structure sU(h:Heap)(x dx C:Addr)(mA:Zx):Prop where
 obj:h.get? x=some (ZhM dx)
 ns:h.Ns1 dx mA
 ne:dx≠x
theorem alk{h:Heap}{dx:Addr}{mA:Zx}(n:h.Ns1 dx mA):∃od,h.get? dx=some od/\∀name,PySem.W.lookIn name od=some (mA name):=by
 obtain⟨o,es,ep,ho,hd,hk,_,hm⟩:=n;refine⟨o,ho,λname=>?_⟩;have e:=hm name;unfold nsFind findBy at e;rw[←Array.find?_toList]at e;unfold PySem.W.lookIn;rw[hd];ext i;split
 ·rename_i y q;rw[q]at e;exact cb some e
 ·rename_i q;rw[q]at e;have a:es.toList.any (·.refKey)=false:=by rw[afO];intro y hy;obtain⟨z,t,A_⟩:=hk y (Array.mem_toList_iff.mp hy);simp[DictEntry.refKey,A_]
  have a':¬es.toList.any (·.refKey)=true:=by rw[a];exact eh
  rw[ae a'];exact cb some e
theorem sU.look{h:Heap}{x dx C:Addr}{mA:Zx}(I:sU h x dx C mA):∃od,PySem.W.InstAt h x (ZhM dx) C (some od)/\∀name,PySem.W.lookIn name od=some (mA name):=
 let⟨od,ho,hl⟩:=alk I.ns
 ⟨od,⟨I.obj,rfl,rfl,ho⟩,hl⟩
section
variable {prog:Program}{w:World}{A:Around}{E:Zt}{s:Shared}{K:PySem.W.Frag}{x dx C f:Addr}{mA:Zx}{name:Str}{v:Value}
theorem get_map{expr:Bool}{Q:Zt}(X:Zdt)(I:sU s.heap x dx C mA)(hg:Zie name=true)(hh:Zil C=true)
  (ha:Zbe name=some none) (hv:mA name=some v) (ig:PySem.W.handedIn v=true) (h:Q v {s with toks:=s.toks+1}):
  wpAny Y5 A (getAttr Zf2 name expr) Q E s:=by
 obtain⟨od,J,hl⟩:=I.look;exact PySem.W.get_value X J (PySem.W.plainGet_of hg).1 (PySem.W.findObj_own hh ha rfl (by rw[hl,hv])) ig h
theorem ahF{ns:Zc}{Q:Zaj}(X:Zdt)(I:sU s.heap x dx C mA)
  (hs:Zbe "__setattr__"=some Zls) (hp:Znr C=true) (ht:PySem.W.takerIn K C name=some none) (hh:Zil C=true)
  (hw:ZoS ns) (hsz:ns.length<=sizeLine)
  (h:∀h',sU h' x dx C (λy=>if y=name then some v else mA y)->Heap.SameBut dx s.heap h'->Q () {s with heap:=h',toks:=s.toks+2}):
  wpAny Y5 A (setAttr Zf2 name v) Q E s:=by
 obtain⟨od,J,hl⟩:=I.look;refine PySem.W.set_plain X J hs (PySem.W.osa_open (s:={s with toks:=s.toks+1}) (r:=none) X J hp ht λb=>?_);obtain⟨cd,hc,yg⟩:=PySem.W.any_some hh;have hx:s.heap.get? x=some ⟨WY,some dx,.plain,#[]⟩:=I.obj;refine aj (aL (aj (aj (wpAny_loadPart hx (aj (PySem.W.Looks.here (s:={s with toks:=s.toks+1}) (PySem.W.looks_clsIn X hc) ?_))))));rw[yg];refine aL (a:=some dx) (aj (aL (aj ?_)));refine wpAny_nsSet1 (s:={s with toks:=s.toks+1}) I.ns λh' fH EU=>?_;obtain⟨oD,esD,epD,hoD,hdD,hcD⟩:=fH.count (PySem.Within.cons name v hw);refine aj (wpAny_lookBehind hoD (by rw[hdD];exact pastItsLine_dict (cq hcD (by rw[bb];omega))) ?_);exact aL (h _ ⟨(EU.2 _ (qt I.ne)).trans I.obj,fH,I.ne⟩ EU)
theorem alf{R:Zh3}{vs:Zq}{kw:Zal}(X:Zdt)(hm:Zn8 C=true)
  (hi:Zbe "__init__"=some ZaG) (hf:PySem.W.typeIn K Yo=some (.type "function"))
  (h:codeAny Y5 (A.under (.builtin "type.__call__" ⟨.ref C::vs,kw⟩)) (.call Yo ⟨.ref YS::vs,kw⟩) (PySem.W.InitBack YS R)
   {s with heap:=(s.heap.push PySem.W.emptyDict).push (PySem.W.instObj C s.heap.objs.size)}):
  codeAny Y5 A (.call WY ⟨vs,kw⟩) R s:=by
 obtain⟨hh,g,d,t,os⟩:=s;exact PySem.W.make_core (PySem.W.makes_of X hm) (PySem.W.looks_findIn X hi) (λself=>PySem.W.bind_fn X self hf) Xd h
end
def fh(f:Str)(v:V):Y6->List ZgR
 |[]=>[(f,v)]
 |(g,x)::r=>if g=f then(g,v)::r else(g,x)::Zcp r
theorem abc(f g:Str)(v:V):∀fs:List ZgR,(Zcp fs).lookup g=if g=f then some v else fs.lookup g
 |[]=>by
  show List.lookup g [(f,v)]=_;by_cases h:g=f
  ·have hb:(g==f)=true:=oO.mpr h;simp only[List.lookup,hb,af h]
  ·have hb:(g==f)=false:=ip.mpr h;simp only[List.lookup,hb,ae h]
 |(k,x)::r=>by
  have ih:=abc f g v r;ext aR
  ·rw[af hk];by_cases h:g=k
   ·have hb:(g==k)=true:=oO.mpr h;simp only[List.lookup,hb,af (h.trans hk)]
   ·have hb:(g==k)=false:=ip.mpr h;simp only[List.lookup,hb,ae (λe:g=f=>h (e.trans hk.symm))]
  ·rw[ae hk];by_cases h:g=k
   ·have hb:(g==k)=true:=oO.mpr h;simp only[List.lookup,hb,ae (λe:g=f=>hk (h.symm.trans e))]
   ·have hb:(g==k)=false:=ip.mpr h;simp only[List.lookup,hb];exact ih
theorem La(f:Str)(v:V):∀fs:List ZgR,f∈(Zcp fs).map Zg/\∀g,g∈fs.map Zg->g∈(Zcp fs).map Zg
 |[]=>⟨by simp[fh],λg h=>by simp at h⟩
 |(k,x)::r=>by
  obtain⟨i1,i2⟩:=La f v r;ext aR
  ·rw[af hk];subst hk;exact⟨Zh,λg h=>Zoj⟩
  ·rw[ae hk];refine⟨?_,λg h=>?_⟩
   ·rw[cw];exact ZE i1
   ·rw[cw]at h⊢;rcases aJ.mp h with e|e
    ·exact aJ.mpr Zb9
    ·exact ZE (i2 g e)
theorem abv(f:Str)(v:V):∀fs:List ZgR,(Zcp fs).length <=fs.length+1
 |[]=>by simp[fh]
 |(k,x)::r=>by
  have ih:=abv f v r;ext aR
  ·rw[af hk,bb,bb];omega
  ·rw[ae hk,bb,bb];omega
theorem jL.some_of{v:V}{o:Zad}(r:jL VU o):∃u,o=some u/\RelV v u:=by
 cases o with
 |none=>exact(show False from r).elim
 |some u=>exact⟨u,rfl,r⟩
theorem anH{v:V}{u:Value}(r:XS):PySem.W.handedIn u=true:=by
 cases v with
 |ba=>cases(show u=Value.none from r);rfl
 |bl b=>cases(show u=Value.bool b from r);rfl
 |int i=>obtain⟨t,e⟩:=ZtF;cases e;rfl
 |str x=>obtain⟨t,e⟩:=ZtG;cases e;rfl
 |gr b=>obtain⟨t,e⟩:=(show∃t,u=Value.bytes b t from r);cases e;rfl
 |FJ b=>obtain⟨t,e⟩:=(show∃t,u=Value.float b t from r);cases e;rfl
 |ref a=>cases(show u=Value.ref a from r);rfl
 |ty n=>cases(show u=Value.type n from r);rfl
section
variable {P:Program}{w:World}{H H':Hp}{h h':Heap}{a C dx:Addr}{fs fs':Y6}
theorem Lg(aC:Xq)(e:Zqf):∃mA,sU h a dx C mA/\(∀f,ZmK)/\ZoS (fs.map Zg)/\fs.length<=1000/\H dx=some ZgP:=by obtain⟨d,z,ne,ob,mA,n,r,q⟩:=(show Vg Zbn from aC a _ e);exact⟨mA,⟨ob,n,ne⟩,r,q,z,d⟩
end
structure jP(K:PySem.W.Frag)(C:Addr):Prop where
 pg:Zie Str.empty=true
 hd:Zil C=true
 po:Znr C=true
 sa:Zbe "__setattr__"=some Zls
theorem jP.get{K:PySem.W.Frag}{C:Addr}(c:jP K C)(f:Str):Zie f=true:=c.pg
def hJ(K:PySem.W.Frag)(C:Addr)(f:Str):Prop:=Zbe f=some none
theorem hJ.agZ{K:PySem.W.Frag}{C:Addr}{f:Str}(n:Vx f):PySem.W.takerIn K C f=some none:=by unfold PySem.W.takerIn;rw[show Zbe f=some none from n];rfl
section
variable {X:Cx}{pins:Zv}{σ:St}{H:Hp}{s:Shared}{a C dx:Addr}{fs:Y6}{f:Str}{v:V}{A:Around}{E:Zt}
theorem anS{b:Bool}{Q:Zt}(I:Zf)(e:Zqf)(c:jP X.K C)(n:hJ X.K C f)(l:fs.lookup f=some v)
  (h:∀u s',ZQ H s'->XS->Q u s'):wpAny Yd A (getAttr ZX f b) Q E s:=by
 obtain⟨mA,O,r,_,_,_⟩:=Lg I.aC e;obtain⟨u,hu,ru⟩:=Zok (o:=mA f) (by rw[←l];exact r f);exact get_map I.kr O (c.get f) c.hd n hu (anH ru) (h u _ YL ru)
theorem ahC{y:V}{u:Value}{Q:Zaj}(I:Zf)(e:Zqf)(c:jP X.K C)(n:hJ X.K C f)(hl:Zps)(ry:XB)
  (h:∀s',ZQ (V7 Zxl) s'->Q () s'):wpAny Yd A (setAttr ZX f u) Q E s:=by
 obtain⟨mA,O,r,wi,_,ho⟩:=Lg I.aC e;have hz:(fs.map Zg).length <=sizeLine:=by rw[aq,zQ];omega
 refine ahF I.kr O c.sa c.po n.agZ c.hd wi hz λh' O' sb=>h _ ?_;have hd:∃o,h'.get? dx=some o:=let⟨o,_,_,e',_⟩:=O'.ns;⟨o,e'⟩;refine I.write (x:=a) (e:=dx) (by rw[e];exact True.intro) (.inr ho) (λb q hb z=>(sb.2 b hb).trans z) hd ?_;refine⟨by rw[ax O.ne];exact ho,?_,O.ne,O'.obj,_,O'.ns,λg=>?_,λg hg=>?_⟩
 ·have:=abv f y fs;omega
 ·show jL ((fh f y fs).lookup g) (if g=f then some u else mA g);rw[abc];by_cases q:g=f
  ·rw[af q,af q];exact ry
  ·rw[ae q,ae q];exact r g
 ·by_cases q:g=f
  ·rw[q];exact(La f y fs).1
  ·refine(La f y fs).2 g (wi g λz=>hg ?_);show(if g=f then some u else mA g)=none;rw[ae q];exact z
theorem Inv.made(I:Zf):ZQ (upd (Wl (.own YS)) YS (Zca s.heap.objs.size []))
  {s with heap:=(s.heap.push PySem.W.emptyDict).push (PySem.W.instObj C s.heap.objs.size)}:=by
 have e1:(s.heap.push PySem.W.emptyDict).get? s.heap.objs.size=some PySem.W.emptyDict:=dj s.heap rfl;have e2:((s.heap.push PySem.W.emptyDict).push ZmZ).get? YS=some ZmZ:=by have:=dj Zuq (o:=ZmZ) rfl;rwa [gb]at this
 have e3:(s.heap.push PySem.W.emptyDict).Ns s.heap.objs.size (λ_=>none):=⟨PySem.W.emptyDict,#[],_,e1,rfl,(λe he=>absurd he Zh),λ_=>rfl⟩;have I1:=Zl4 (o:=.own YS) (h':=Zuq) (t':=s.toks) Ziy ZA ⟨_,e1⟩;refine I1.laid (a:=s.heap.objs.size+1) (o:=Zca s.heap.objs.size []) (t':=s.toks) Ziy (OX (gb _ _)) ?_;have ne:s.heap.objs.size≠s.heap.objs.size+1:=eB (Cf _);refine⟨by rw[ax ne,au],ZI,ne,e2,λ_=>none,(Heap.Ns1.of_empty e3).at λo q=>cV _ q,λ_=>True.intro,λy hy=>absurd rfl hy⟩
theorem aes{prog:Program}{w:World}{env:Env}{e:Expr}{f:Str}{pos:Pos}{s:Shared}{Q:Zt}(hb:attributeBase e f env ZqB=eval e env)
  (h:YC ZqB (λo s₁=>YC (getAttr o f true) Q E s₁) E s):YC (eval Zm1 env) Q E s:=
 Attribute_any_ h (by rw[arm_eval_Attribute,hb])
end
def qI(K:PySem.W.Frag)(ta:TE)(f:Str):TE:=fun σ H Q=>Xb H λx H1=>∃a C dx fs v,x=.ref a/\H1 a=some Zbn/\jP K C/\Vx f/\fs.lookup f=some v/\Q v H1
def mQ(K:PySem.W.Frag)(ta tv:TE)(f:Str):TS:=λD σ H=>tv σ H λy H1=>Xb H1 λx H2=>∃a C dx fs,x=.ref a/\H2 a=some Zbn/\jP K C/\Vx f/\fs.length<1000/\
 D.nx σ (YM a Zxl)
section
variable {X:Cx}{o e value:Expr}{f:Str}{pos pos' fQ:Pos}{ta tv:TE}
theorem aix(he:Zu e ta)(hb:ZsK):Zu Zm1 (qI X.K ta f):=by intro pins s σ H Q I h;refine aes hb (aM Zae λu s1 ⟨x,H1,I1,rx,a,C,dx,fs,v,ex,ea,c,n,l,q⟩=>?_);subst ex;obtain rfl:u=Value.ref a:=rx;exact anS I1 ea c n l λu' s2 I2 ru=>⟨v,H1,I2,ru,q⟩
theorem ah9(ha:Zu o ta)(hv:ZjE)(hs:Zk7):PS X ZlG (mQ X.K ta tv f):=by intro pins s σ H D I h;refine plainObj_wpAny_Assign_Attribute (aM ZwA λu s1 ⟨y,H1,I1,ry,q⟩=>aM (Zoy _ I1 q) λov s2 ⟨x,H2,I2,rx,a,C,dx,fs,ex,ea,c,n,l,q2⟩=>?_) hs;subst ex;obtain rfl:ov=Value.ref a:=rx;exact ahC I2 ea c n l ry λs3 I3=>⟨σ,_,I3,q2⟩
end
section
variable {X:Cx}{pins:Zv}{σ:St}{H:Hp}{s:Shared}{A:Around}{E:Zt}{Q:Zt}{c:Value}{b:Bool}
end
end L2
namespace L2
open PySem PySem.Spec PyProof.Rows
structure eA(k:Nat)(A:Around):Prop where
 hd:A.handled=none
 dp:A.depth+3*k+5<recursionLimit
 un:A.units+16*k+200<cLine
theorem eA.mono{j k:Nat}{A:Around}(r:eA k A)(h:j<=k):eA j A:=⟨r.hd,by have:=r.dp;omega,by have:=r.un;omega⟩
theorem eA.deeper{k:Nat}{A:Around}(r:eA YQ A)(env:Env):eA k (A.deeper env):=
 ⟨r.hd,by have:=r.dp;show A.depth+1+3*k+5<_;omega,by have:=r.un;show A.units+3+16*k+200<_;omega⟩
theorem alg{A:Around}{C:Addr}{us:Zq}{kw:Zal}:(A.under Zhj).depth =A.depth+1:=by
 first |rfl|simp[Around.under,Code.weight,Code.isCreation,Code.isGuard,Code.isCaller,Code.frames,Code.isFrame,guardIds]
theorem ale{A:Around}{C:Addr}{us:Zq}{kw:Zal}:(A.under Zhj).units =A.units+1:=by
 first |rfl|simp[Around.under,Code.cUnits,Code.frames,Code.isFrame]
theorem eA.make{k:Nat}{A:Around}(r:eA YQ A)(C:Addr)(us:Zq)(kw:Zal):eA k (A.under Zhj):=
 ⟨r.hd,by have:=r.dp;rw[alg];omega,by have:=r.un;rw[ale];omega⟩
theorem eA.depth{k:Nat}{A:Around}(r:eA k A):A.depth<recursionLimit:=by have:=r.dp;omega
theorem eA.units{k:Nat}{A:Around}(r:eA k A):A.units+64<cLine:=by have:=r.un;omega
def kS:TA:=λ_ H Q=>Q [] H
def tU(ta:TE)(tr:TA):TA:=fun σ H Q=>Xb H λx H1=>tr σ H1 λxs H2=>Q (x::xs) H2
section
variable {X:Cx}{e:Expr}{es:Ya}{te:TE}{t:TA}{pos:Pos}
theorem ai:PA X [] kS:=λ_ _ _ _ H Q I h=>Pr ⟨[],H,I,.nil,h⟩
theorem aa(ha:XT)(hr:PA X es t)(hs:Va X.env=(false,Yv)::VN X.env:=by rfl):VH (tU te t):=by intro pos pins s σ H Q I h;rw[hs];show YF (spliced ((false,Yv)::Xa WJ)) _ _ s;refine Hn (aM VA λu s1 ⟨x,H1,I1,r1,q1⟩=>?_);exact aM (hr pos pins s1 σ H1 _ I1 q1) λus s2 ⟨xs,H2,I2,r2,q2⟩=>⟨x::xs,H2,I2,.cons r1 r2,q2⟩
def tD(t:TA):TE:=fun σ H Q=>t σ H λxs H1=>xs.length<=sizeLine/\∀p,H1 p=none->Q Z6 (Yr p Vj)
def mM(t:TA):TE:=fun σ H Q=>t σ H λxs H1=>xs.length<=sizeLine/\∀p,H1 p=none->Q Z6 (Yr p Yw)
theorem Kk{x1}(h:PA X es t):Zu (.Tuple es x1 pos) (tD t):=by intro pins s σ H Q I hq;refine wpAny_Tuple_spliced Zq1;have hf:H1 s1.heap.objs.size=none:=ZeZ;refine⟨Zxb,ZxM Vj,Zsj,rfl,q _ hf⟩;exact⟨z,us,r,⟨_,dj _ rfl,rfl,_,rfl⟩⟩
theorem bh(h:PA X es t):Zu (.List es pos) (mM t):=by intro pins s σ H Q I hq;refine wpAny_List_spliced Zq1;have hf:H1 s1.heap.objs.size=none:=ZeZ;refine⟨Zxb,ZxM Yw,Zsj,rfl,q _ hf⟩;exact⟨z,us,0,r,dj _ rfl⟩
end
abbrev Sp:=List V->Hp->VK->XK->Prop
abbrev qz:=List Env->Hp->Shared->XK->Value->Shared->Prop
structure wA(P:Program)(w:World)(K:PySem.W.Frag)(mg:Zx)(base:Heap)(A:Around)(outer:WZ)(s:Shared)(H:Hp):Prop where
 frames:A.frames=some outer
 mod:Mod K mg base
 bs:∀b o,base.get? b=some o->s.heap.get? b=some o/\H b=none
 oN:base.objs.size<=s.heap.objs.size
 mj:s.heap.FunFrames base outer
 vD:∀b∈nz outer,H b=none
 aC:Za6 H s.heap
 bare:AllBare s.gens
def CE(outer:WZ)(P:Program)(w:World)(H:Hp)(s:Shared)(Q:VK)(u:Value)(s':Shared):Prop:=
 ∃v H',s'.os=s.os/\ZoL/\Un (nz outer) [] H H' s.heap s'.heap/\Za6 H' s'.heap/\XS/\Q v H'
def CR(CX:qz)(outer:WZ)(P:Program)(w:World)(H:Hp)(s:Shared)(Q:VK)(E:XK)(r:Result)(s':Shared):Prop:=
 match r with
 | .ok (.ret u)=>ZwL
 | .ok _=>False
 | .error e=>Zpc e s'
structure aO(P:Program)(w:World)(K:PySem.W.Frag)(mg:Zx)(base:Heap)(CX:qz)(k:Nat)(f:Addr)(fd:FuncData)(ps:Zc)(sp:Sp):Prop where
 len:∀vs H Q E,Zdw->vs.length=ps.length
 run:∀(A:Around) (outer:WZ) (s:Shared) (H:Hp) (args:Args) (us:Zq) (vs:Ze) (Q:VK) (E:XK),eA k A->Zl5->BindsTo s fd args ZbI->ZaH->Zdw->
  codeAny Zdr A (.call Yo args) (CR CX outer P w H s Q E) s
theorem wA.make{P:Program}{w:World}{K:PySem.W.Frag}{mg:Zx}{base:Heap}{A:Around}{outer:WZ}{s:Shared}{H:Hp}(e:Zl5)(C:Addr)(us:Zq)(kw:Zal):
  wA P w K mg base (A.under Zhj) outer s H:=⟨by first |exact e.frames|(simpa[Around.under,Code.envs,Code.isFrame,pushEnvs]using e.frames),e.mod,e.bs,e.oN,e.mj,e.vD,e.aC,e.bare⟩
section
variable {X:Cx}{pins:Zv}{σ:St}{H:Hp}{s s':Shared}
theorem Inv.adA(I:Zf):wA X.prog X.w X.K X.mg X.base X.A X.stack s H:=
 ⟨I.ok.frames,I.ok.mod,I.bs,Zka I.sz,I.stack,I.Qv,I.aC,I.bare⟩
theorem Inv.after{Q:VK}{u:Value}(I:Zf)(h:CE X.stack X.prog X.w H s Q u s'):Yy u s':=by obtain⟨v,H',os,bare,un,aC,r,q⟩:=h;obtain⟨hh,g,d,t,os'⟩:=s';obtain rfl:os'=s.os:=os;exact⟨v,H',I.call (h':=hh) (g':=g) (d':=d) (t':=t) (ch:=[]) un aC bare (λb z=>ZaX Zh),r,q⟩
end
def qK(sp:Sp)(i_:Ze)(E:XK)(t:TA):TE:=fun σ H Q=>t σ H λvs H1=>sp ZkX H1 Q E
def nS(C:Addr)(sp:Sp)(i_:Ze)(E:XK)(t:TA):TE:=fun σ H Q=>t σ H λvs H1=>∀x dx,H1 x=none->H1 dx=none->dx≠x->
 sp Zyh (upd (Yr dx ZbH) x Zqp) Zu3 E
def Binds(K:PySem.W.Frag)(fd:FuncData)(ps:Zc)(ds:Zq):Prop:=
 ∀(s:Shared) (us:Zq),Zdt->(us++ds).length =ps.length->ZhR (ps.zip (us++ds))
theorem Binds.all{K:PySem.W.Frag}{fd:FuncData}{ps:Zc}(h:∀us:List Value,us.length=ps.length->bindArgs fd Zf8=pure ZbI):UE ps []:=λs us _ hl=>by rw[fc]at hl⊢;exact .of_eq (h us hl)
def Passes(CX:qz)(X:Cx)(E:XK):Prop:=∀(pins:Zv) (σ:St) (H:Hp) (s:Shared) (e:Value) (s':Shared),Zf->CX X.stack H s E e s'->X.xe e s'
section
variable {X:Cx}{CX:qz}{k:Nat}{f C:Addr}{fd:FuncData}{ps:Zc}{sp:Sp}{i_:Ze}{ds:Zq}{E:XK}{x m:Str}{p pos apos:Pos}{e o:Expr}{es:Ya}{ta:TE}{t:TA}
theorem TC{pins:Zv}{σ:St}{H:Hp}{s:Shared}{Q:VK}{us:Zq}{vs:Ze}(F:Zex)(hr:eA k X.A)(hb:Ze8)(hd:Zgm)(hx:ZfE)
  (I:Zf) (r:ZaH) (h:sp ZkX H Q E):Yt (call Yo us) Yy X.xe s:=by
 have r2:Vals ZkX (us++ds):=r.append hd;have hl:(us++ds).length =ps.length:=by rw[←r2.length];exact F.len _ _ _ _ h
 refine CC (vK (F.run X.A X.stack s H Zf8 (us++ds) ZkX Q E hr I.adA (hb s us I.kr hl) r2 h) λr s' hq=>?_);cases r with
 |error e=>exact hx pins σ H s e s' I hq
 |ok fl=>
  cases fl with
  |ret u=>exact I.after hq
  |next=>exact False.elim hq
  |brk=>exact False.elim hq
  |cont=>exact False.elim hq
theorem aiC(F:Zex)(hr:eA k X.A)(hg:X1)(hm:X.mg x=some Yo)(hk:PySem.W.keepIn X.K Yo=true)(hb:Ze8)(hd:Zgm)(hx:ZfE)
  (ha:VH t) (j5:(x==("__debug__":Str))=false:=by decide) (he:Va X.env=(false,Yv)::VN X.env:=by rfl) (cC:(Xa WJ).any Zg=false:=by rfl):
  PE X Zcz (qK sp i_ E t):=by
 ext f;refine Zm7;refine ZlV hk ZrQ he cC;exact TC F hr hb hd hx I1 r q
structure Mk(K:PySem.W.Frag)(C f:Addr):Prop where
 makes:Zn8 C=true
 init:Zbe "__init__"=some ZaG
 fn:PySem.W.isFn K Yo=true
 kp:Zbi WY=true
theorem TB{pins:Zv}{σ:St}{H:Hp}{s:Shared}{Q:VK}{us:Zq}{vs:Ze}(M:Mk X.K C f)(F:Zex)(hr:eA YQ X.A)(hb:Ze8)(hd:Zgm)
  (hx:ZfE) (I:Zf) (r:ZaH)
  (h:∀x dx,H x=none->H dx=none->dx≠x->sp Zyh (upd (ZH dx ZbH) x Zqp) Zu3 E):
  wpAny Yd X.A (call WY us) Yy X.xe s:=by
 have hq:=h YS s.heap.objs.size (I.aC.fresh (Nat.le_succ _)) X4 (eB (Cf _));have I2:=Inv.made (C:=C) I;have r2:Vals (V.ref YS::(vs++i_)) Zvp:=.cons rfl (r.append hd);have hl:(Value.ref YS::us++ds).length =ps.length:=by have e:=r2.length;rw[F.len _ _ _ _ hq]at e;exact e.symm
 refine CC (alf (f:=f) I.kr M.makes M.init (oO.mp M.fn) (vK (F.run _ X.stack _ _ ⟨Value.ref YS::us,[]⟩ Zvp _ _ E (hr.make C us [])
  (I2.adA.make C us []) (hb _ (Value.ref (s.heap.objs.size+1)::us) I2.kr hl) r2 hq) λr s' cF=>?_))
 cases r with
 |error e=>exact hx pins σ _ _ e s' I2 cF
 |ok fl=>
  cases fl with
  |ret u=>
   obtain⟨v,H',I3,rv,ev,q3⟩:=I2.after cF;subst ev;exact⟨rv,⟨V.ref YS,H',I3,rfl,q3⟩⟩
  |next=>exact False.elim cF
  |brk=>exact False.elim cF
  |cont=>exact False.elim cF
theorem aiv(M:Mk X.K C f)(F:Zex)(hr:eA YQ X.A)(hg:X1)(hm:X.mg x=some WY)(hb:Ze8)(hd:Zgm)(hx:ZfE)
  (ha:VH t) (j5:(x==("__debug__":Str))=false:=by decide) (he:Va X.env=(false,Yv)::VN X.env:=by rfl) (cC:(Xa WJ).any Zg=false:=by rfl):
  PE X Zcz (nS C sp i_ E t):=by
 ext f;refine Zm7;refine ZlV M.kp ZrQ he cC;exact TB M F hr hb hd hx I1 r q
theorem aiu(M:Mk X.K C f)(F:Zex)(hr:eA YQ X.A)(hg:X1)(hm:X.mg x=some WY)(hb:Ze8)(hd:Zgm)(hx:ZfE)
  (j5:(x==("__debug__":Str))=false:=by decide):Zu Zuj (nS C sp i_ E kS):=by
 ext f;refine Zm7;exact PySem.W.callWith_K0 I.kr M.kp (TB (us:=[]) M F hr hb hd hx I .nil h)
end
section
variable {X:Cx}{CX:qz}{k:Nat}{f C:Addr}{fd:FuncData}{ps ks:Zc}{sp:Sp}{E:XK}{x m:Str}{p pos apos atV:Pos}{e o:Expr}{es:Ya}{uS:List Keyword}{te ta:TE}{t tk:TA}{nm:Option Str}
variable {g:Zq->Zq->Zq}{gV:Ze->Ze->Ze}
end
structure aV(N P:Zc)(sc:Scope):Prop where
 kind:sc.kind=.function
 co:sc.isCoroutine=false
 gen:sc.isGenerator=false
 nd:N.Nodup
 pre:N.take P.length=P
 par:∀x∈P,sc.names.lookup x=some .local ∨sc.names.lookup x=some .cell
 akE:∀y∈sc.names,y.2≠.free
theorem aeg{kindOf:Zh9}{x:Str}:∀{binds:Zal} {m:Zx},(∀v,(x,v)∉binds)->Zqw binds m x=m x
 |[],_,_=>rfl
 |(n,v)::r,m,h=>by
  unfold bindL;rw[aeg λw hw=>ZqE];split
  ·have:x≠n:=by rintro rfl;exact h v aY
   simp[this]
  ·rfl
theorem aei{kindOf:Zh9}{x:Str}:∀{binds:Zal} {m:Zx},(∀v,(x,v)∉binds)->Zqv binds m x=m x
 |[],_,_=>rfl
 |(n,v)::r,m,h=>by
  unfold bindC;rw[aei λw hw=>ZqE];split
  ·rfl
  ·have:x≠n:=by rintro rfl;exact h v aY
   simp[this]
theorem aeh{kindOf:Zh9}{x:Str}{v:Value}:∀{P:Zc} {vs:Zq} {i:Nat} {m:Zx},P.Nodup->P[i]? =some x->vs[i]? =some v->kindOf x=some .local ->
  bindL kindOf (P.zip vs) m x=some v
 |[],_,_,_,_,h,_,_=>by simp at h
 |_::_,[],_,_,_,_,h,_=>by simp at h
 |p::P,w::vs,0,m,nd,h1,h2,hk=>by simp at h1 h2;subst h1;subst h2;show Zqw Ziw m p=_;unfold bindL;rw[aeg λv hv=>(df.mp nd).1 (afs hv).1,af hk];simp
 |p::P,w::vs,i+1,m,nd,h1,h2,hk=>by show Zqw Ziw m x=_;unfold bindL;exact aeh (i:=i) (df.mp nd).2 Znx Zny hk
theorem aej{kindOf:Zh9}{x:Str}{v:Value}:∀{P:Zc} {vs:Zq} {i:Nat} {m:Zx},P.Nodup->P[i]? =some x->vs[i]? =some v->kindOf x≠some .local ->
  bindC kindOf (P.zip vs) m x=some v
 |[],_,_,_,_,h,_,_=>by simp at h
 |_::_,[],_,_,_,_,h,_=>by simp at h
 |p::P,w::vs,0,m,nd,h1,h2,hk=>by simp at h1 h2;subst h1;subst h2;show Zqv Ziw m p=_;unfold bindC;rw[aei λv hv=>(df.mp nd).1 (afs hv).1,ae hk];simp
 |p::P,w::vs,i+1,m,nd,h1,h2,hk=>by show Zqv Ziw m x=_;unfold bindC;exact aej (i:=i) (df.mp nd).2 Znx Zny hk
def start(N:Zc)(vs:Ze):St:=vs.map some++List.replicate (N.length-vs.length) none
def sJ(CX:qz)(P:Program)(w:World)(K:PySem.W.Frag)(mg:Zx)(base:Heap)(N:Zc)(qual:Str)(scope:Scope)(f:Addr)(cd:Value)(A:Around)(outer:WZ)(s:Shared)(H:Hp)(E:XK):Cx where
 prog:=P
 w:=w
 K:=K
 mg:=mg
 base:=base
 A:=A.deeper (Zaa cd)
 N:=N
 gM:=s
 wz:=H
 env:=Zaa cd
 outer:=outer
 stack:=Zaa cd::outer
 ex:=[]
 calm:=true
 fn:=λ_=>true
 pn:=[]
 xe:=λe s'=>wpAny Zdr (A.deeper (Zaa cd)) (leaving (Zaa cd) e) (λ_ JS=>Zpc e JS) (λe' JS=>Zpc e' JS) s'
theorem aea{sc:Scope}{n:Nat}{x:Str}(h:sc.names.lookup x=some .cell):∃c,(cellsFrom n sc.names []).lookup x=some c:=by have q:=PySem.W.cellsFrom_some sc.names n [] XQ;exact Option.isSome_iff_exists.mp q
theorem al7{CX:qz}{P:Program}{w:World}{K:PySem.W.Frag}{mg:Zx}{base:Heap}{N ps:Zc}{qual:Str}{scope:Scope}{f:Addr}{cd:Value}{A:Around}{outer:WZ}{s s1:Shared}{H:Hp}{E:XK}{us:Zq}{vs:Ze}
  (S:aV N ps scope) (hd:Vc) (e0:Zl5) (hl:vs.length=ps.length) (r:ZaH)
  (x:InCallC s s.heap.objs.size (bindL (Zaa cd).kindOf ZbI λ_=>none) (cellsFrom YS scope.names []) (bindC (Zaa cd).kindOf ZbI λ_=>none) s1):
  Inv (Zli cd A outer s H E) [] Zp4 H s1:=by
 have cC:ps.length<=N.length:=by have:=Zaw S.pre;rw[eY]at this;omega
 obtain⟨h1,tk,rfl,hk⟩:=x.done;have Ar:∀b:Addr,b∉(Zli cd A outer s H E).ex :=λb z=>Zss;refine⟨⟨e0.mod,S.kind,rfl,rfl,ZA,λy z c h1 h2=>?_,λy hy=>?_,λy c _ h=>?_,λ_=>hd,Around.frames_deeper e0.frames,.inr Uy,λb z=>ZaX (Ar b),e0.bs,e0.oN,λb _ _=>Ar b,λb z=>ZaX (Ar b),e0.mj,e0.vD⟩,
  rfl,e0.bare,Un.kept hk,⟨_,x.toInCall.ns,λi y v h1 h2 h3=>?_⟩,λy c h=>⟨_,x.cell y c h⟩,e0.aC.fresh (aU _),λy c h=>?_,λp hp=>absurd (show p∈([]:List (Addr×Obj))from hp) (by simp),e0.aC.kept hk,?_⟩
 ·exact name_of_addr x.apart (kP h1) (kP h2)
 ·have hy:scope.names.lookup y=some .cell ∨scope.names.lookup y=some .free :=hy;rcases hy with hy|hy
  ·exact aea hy
  ·exact absurd rfl (S.akE _ (kP hy))
 ·exact Zv7
 ·have hi:i<vs.length:=by
   unfold start at h2;by_cases hi:i<vs.length
   ·exact hi
   ·rw[List.getElem?_append_right ZxZ]at h2;rw[List.getElem?_replicate]at h2;split at h2<;>cases h2
  have ha:vs[i]? =some v:=by
   unfold start at h2;rw[afC ZxZ,cx]at h2;cases e:vs[i]? with
   |none=>rw[e]at h2;cases h2
   |some a=>rw[e]at h2;cases h2;rfl
  obtain⟨u,hu,rv⟩:=r.get ha;have hp:ps[i]? =some y:=by rw[←S.pre,afy Zb];exact h1
  have ndP:ps.Nodup:=by rw[←S.pre];exact S.nd.sublist (List.take_sublist _ _)
  refine⟨u,rv,?_⟩;rcases S.par y (bI hp)with k|k
  ·exact .inl ⟨k,aeh ndP hp hu k⟩
  ·obtain⟨c,e⟩:=aea (n:=s.heap.objs.size+1) k;refine .inr ⟨Zd3,c,e,?_⟩;have q:=x.cell y c e;rw[aej ndP hp hu (by show scope.names.lookup y≠_;rw[k];decide)]at q;exact q
 ·exact e0.aC.fresh Zv7
 ·unfold start;show _=N.length;rw[bS,aq,List.length_replicate];omega
theorem adn{CX:qz}{P:Program}{w:World}{K:PySem.W.Frag}{mg:Zx}{base:Heap}{k:Nat}{f:Addr}{name qual:Str}{params:Arguments}{body:WV}{scope:Scope}{dV kV doc pm aG ct oc:Value}{an od:Ws}
  {jn:ZdF} {N ps:Zc} {sp:Sp} (lk:K.lookup f=some ⟨oc,od,.func Zrn,jn⟩) (lB:ZpG) (S:aV N ps scope)
  (len:Zlm)
  (Bf:∀(A:Around) (outer:WZ) (s:Shared) (H:Hp) (vs:Ze) (Q:VK) (E:XK),eA k (A.deeper (Zaa aG))->Zdw->
   ∃t,jb (sJ CX P w K mg base N qual scope f aG A outer s H E) body t/\t {nx:=λ_ H'=>Q .ba H',rt:=Q} (start N vs) H):
  aO P w K mg base CX YQ f Zrn ps sp:=by
 refine⟨len,λA outer s H args us vs Q E hr e0 hb r ow=>?_⟩;have hl:=len _ _ _ _ ow;have KX:Zdt:=e0.mod.xM.keeps λb o e=>(e0.bs b o e).1;have lim:s.heap.NoLimit:=e0.mod.nolimit.keeps λb o e=>(e0.bs b o e).1;have ane:∀y∈ps.zip us,scope.names.lookup y.1=some .local ∨(scope.names.lookup y.1=some .cell /\((cellsFrom YS scope.names []).lookup y.1).isSome =true):=λ⟨n,v⟩ hy=>by
  rcases S.par n (afs hy).1 with q|q
  ·exact Wc
  ·exact .inr ⟨q,PySem.W.cellsFrom_some _ _ _ Wc⟩
 refine codeAny_call_function hr.depth (KX _ _ lk) rfl S.co S.gen rfl (PySem.W.codeRec_of KX lB) (hb _ _ _ _ ?_);refine wpAny_newFunctionEnv_cells S.kind ane λenv he s1 x=>?_;subst he;refine⟨lim.keeps x.toInCall.keep,codeAny_func ?_⟩;obtain⟨t,ht,hq⟩:=Bf A outer s H vs Q E (hr.deeper _) ow;have I:Inv Zwt [] Zp4 H s1:=al7 S hr.hd e0 hl r x;refine gL (ht [] s1 Zp4 H _ I hq) (λfl s' hs=>?_) λe s' hs=>hs;have fin:∀{σ':St} {H':Hp} {v:V} {u:Value},Inv Zwt [] σ' H' s'->XS->Q v H'->ZwL:=
  λ{σ' H' v u} J rv q=>⟨v,H',J.os,J.bare,J.base,J.aC,rv,q⟩
 cases fl with
 |ret u=>
  obtain⟨v,σ',H',J,rv,q⟩:=hs;exact fin J rv q
 |next=>
  obtain⟨σ',H',J,q⟩:=hs;exact fin (v:=V.ba) (u:=Value.none) J rfl q
 |brk=>
  ext c9
 |cont=>
  ext c9
end L2
namespace L2
open PySem PySem.Spec PyProof.Rows
section
variable {X:Cx}{x:Str}{p pos:Pos}{e:Expr}{es:Ya}{t:TA}{id T:String}{r:Znf}
def qL(r:Znf)(t:TA):TE:=fun σ H Q=>t σ H λvs H1=>r vs H1 Q
theorem bW(hc:YR Zc1 r)(hg:X1)(hm:X.mg x=none)(hv:bootBuiltins x=some Zc1)(ha:VH t)(hn:x≠"__name__":=by decide)(j5:(x==("__debug__":Str))=false:=by decide)
  (he:Va X.env=(false,Yv)::VN X.env:=by rfl) (cC:(Xa WJ).any Zg=false:=by rfl):Zu Zcz (qL r t):=by
 ext f;refine ZyH;exact asl Zrj he cC
theorem xo(hc:YR Zkk r)(hg:X1)(hm:X.mg x=none)(hv:bootBuiltins x=some Zkk)(ha:VH t)(hn:x≠"__name__":=by decide)(j5:(x==("__debug__":Str))=false:=by decide)
  (he:Va X.env=(false,Yv)::VN X.env:=by rfl) (cC:(Xa WJ).any Zg=false:=by rfl):Zu Zcz (qL r t):=by
 ext f;refine ZyH;exact Gb Zrj he cC
end
end L2
namespace HT
open PySem PyProof.Rows
section
open PySem.SeqAt
open PySem.AutoSeq1 (wpAny_loadPart')
open PySem.MeetsSeq PySem.MeetsSeq2 PySem.MeetsSeq3
end
section
variable {prog:Program}{w:World}{A:Around}{E:Zt}{s:Shared}
def iW(n d:Nat):Vd->Nat
 |none=>d
 |some v=>if v<0 then(v+(n:Int)).toNat else min v.toNat n
theorem Tt(n d:Nat):iW n d none=d:=rfl
theorem DQ(n d k:Nat):iW n d Zo5=min k n:=by show(if(k:Int)<0 then((k:Int)+(n:Int)).toNat else min (k:Int).toNat n)=min k n;rw[ae Zb,mE]
end
end HT
namespace L2
open PySem PySem.Spec PyProof.Rows
abbrev TO:=St->Hp->(Option Int->Hp->Prop)->Prop
def PO(X:Cx)(e:ZfK)(t:TO):Prop:=
 ∀(pins:Zv) (s:Shared) (σ:St) (H:Hp) (Q:Vd->Hp->Prop),Zf->Zb8->
  wpAny Yd X.A (evalPart e X.env) (λu s'=>∃o H',VS/\IsPart u o/\Q o H') X.xe s
def tL:TO:=λ_ H Q=>Q none H
def tH(t:TE):TO:=fun σ H Q=>t σ H λx H1=>∃i,x=.int i/\Q (some i) H1
section
variable {X:Cx}{e:Expr}{te:TE}{lo hi:ZfK}{tl th:TO}{pos p2:Pos}
theorem pD:PO X none tL:=by intro pins s σ H Q I h;rw[evalPart_none];exact aL ⟨none,H,I,.none,h⟩
theorem kZ(h:XT):PO X (some e) (tH te):=by intro pins s σ H Q I hw;rw[evalPart_some];refine aM (Zbw H _ I hw) λu s1 ⟨x,H1,I1,r1,q1⟩=>?_;obtain⟨i,rfl,q⟩:=q1;obtain⟨t,rfl⟩:=r1;exact⟨some i,H1,I1,Zcd,q⟩
def Ox(X:Cx)(r:ZlT):Prop:=
 ∀(pins:Zv) (s:Shared) (σ:St) (H:Hp) (x:V) (v vl vu:Value) (lo hi:Vd) (sl:Addr) (Q:VK),Zf->W0->Zwb .none ->IsPart vl lo->IsPart vu hi->r x lo hi H Q->
  ∃T id,typeLookup Zkk "__getitem__"=pure (some Zc1)/\s.TypeIs v T/\Yt (getItem v Zgw) Yy X.xe s
def tF(r:ZlT)(te:TE)(tl th:TO):TE:=fun σ H Q=>te σ H λx H1=>tl σ H1 λl H2=>th σ H2 λu H3=>r x l u H3 Q
theorem mV{r:ZlT}(hr:Ox X r)(he:XT)(hl:PO X lo tl)(hu:PO X hi th):Zu (.Subscript e Zwj pos) (tF r te tl th):=by intro pins s σ H Q I h;refine Subscript_ ZsB;refine wpAny_Slice (aM (hl pins s1 σ H1 _ I1 q1) λvl s2 ⟨l,H2,I2,pl,q2⟩=>aM (hu pins s2 σ H2 _ I2 q2) λvu s3 ⟨u,H3,I3,pu,q3⟩=>?_);rw[evalPart_none];refine Ys;have I4:ZQ H3 {s3 with heap:=s3.heap.push {cls:=.type "slice",data:=.fields #[vl,vu,.none]}}:=I3.kept (t':=s3.toks) λb ob q=>cV _ q;obtain⟨T,id,hT,ht,hg⟩:=hr pins {s3 with heap:=s3.heap.push {cls:=.type "slice",data:=.fields #[vl,vu,.none]}} σ H3 x v vl vu l u s3.heap.objs.size Q I4 r1 (Heap.IsSliceOf.new ..) pl pu q3;show Yt (subscriptTail e Zwj v (.ref s3.heap.objs.size)) Yy X.xe {s3 with heap:=s3.heap.push {cls:=.type "slice",data:=.fields #[vl,vu,.none]}};exact tail_any (ops:=[.ref s3.heap.objs.size,v]) ht hT hg (by with_unfolding_all rfl)
def ja(xs:Ze)(lo hi:Vd):Ze:=(xs.drop (ZhX 0 lo)).take ZuT
theorem aqq(xs:Ze)(lo hi:Vd):(ja xs lo hi).length <=xs.length:=by unfold ja;rw[eY,mB];omega
end
end L2
namespace L2
open PySem PySem.Spec PyProof.Rows
def m7(n:Nat)(i:Int):Option Nat:=if 0<=i then(if i<n then some i.toNat else none)else if -(n:Int)<=i then some (i+n).toNat else none
def f_{α:Type}(xs:ZN)(i:Int):Option α:=(ZjJ i).bind λj=>xs[j]?
theorem abY{n:Nat}{i:Int}{j:Nat}(h:m7 n i=some j):seqIndex? i n=some j/\j<n/\ -(n:Int)<=i/\i<n:=by
 unfold m7 at h;by_cases h0:0<=i
 ·rw[af h0]at h;by_cases h1:i<n
  ·rw[af h1]at h;have e:i.toNat=j:=bY h;exact⟨by rw[Zpx h1,e],Zb,Zb,h1⟩
  ·ext H;cases h
 ·rw[ae h0]at h;by_cases h1: -(n:Int)<=i
  ·rw[af h1]at h;have e:(i+n).toNat =j:=bY h;exact⟨by rw[ZoF h1,e],Zb,h1,Zb⟩
  ·ext H;cases h
theorem Oi{α:Type}{xs:ZN}{i:Int}{v:α}(h:f_ xs i=some v):∃j,seqIndex? i xs.length=some j/\xs[j]? =some v/\j<xs.length/\ -(xs.length:Int)<=i/\i<xs.length:=by
 unfold f_ at h;cases e:ZjJ i with
 |none=>rw[e]at h;cases h
 |some j=>
  rw[e]at h;obtain⟨h1,h2,h3,h4⟩:=abY e;exact⟨j,h1,h,h2,h3,h4⟩
theorem bQ{α:Type}{xs:ZN}{j:Nat}{v:α}(h:xs[j]? =some v):f_ xs (j:Int)=some v:=by
 have hj:j<xs.length:=(iQ.mp h).1;have e:ZjJ (j:Int)=some j:=by unfold m7;rw[af Zb,af Zb];simp
 unfold f_;rw[e];exact h
theorem arR{α:Type}(xs:ZN)(v:α):f_ (xs++[v]) (-1)=some v:=by
 have hl:(xs++[v]).length =xs.length+1:=by simp
 have e:m7 (xs++[v]).length (-1)=some xs.length:=by unfold m7;rw[hl,ae Zk,af Zb];congr 1;omega
 unfold f_;rw[e];show(xs++[v])[xs.length]? =some v;simp
def asn(b:Expr):Prop:=∀o i,subscripted b false o i=operate [o,i] (getItem o i)
def zq(X:Cx)(r:R2):Prop:=
 ∀(value slice:Expr) (pins:Zv) (s:Shared) (σ:St) (H:Hp) (x y:V) (v u:Value) (Q:VK),Zf->W0->XB->r x y H Q->
  subscripted slice false v u=operate [v,u] (getItem v u)->Yt (subscriptTail value slice v u) Yy X.xe s
def oS(X:Cx)(id:String)(r:Uh):Prop:=
 ∀(pins:Zv) (s:Shared) (σ:St) (H:Hp) (x:V) (xs:Ze) (v:Value) (us:Zq) (Q:VK),Zf->W0->WC->r x xs H Q->
  wpAny Yd X.A Zyy Yy X.xe s
section
variable {X:Cx}{a b:Expr}{ta tb:TE}{pos:Pos}
theorem bj{r:R2}(hr:zq X r)(ha:Wg)(hb:US)(hs:asn b):Zu (.Subscript a b pos) Zjw:=by intro pins s σ H Q I h;exact Subscript_ (Oh ha hb I h λv u s2 x y H2 I2 rx ry q=>hr a b pins s2 σ H2 x y v u Q I2 rx ry q (hs _ _))
def qZ(K:PySem.W.Frag):R2:=λx y H Q=>∃p xs i v,x=.ref p/\y=.int i/\Zg0/\f_ xs i=some v/\Q v H
def qY(K:PySem.W.Frag):R2:=λx y H Q=>∃p xs i v,x=.ref p/\y=.int i/\Vv p xs/\f_ xs i=some v/\Q v H
def uu:R2:=λx y H Q=>∃z i c,x=.str z/\y=.int i/\z.length<=sizeLine/\f_ z.cps.toList i=some c/\Q Zkt H
theorem alQ:zq X (qZ X.K):=by
 ext bW
 ext aD;ext ap;ext bN;by_cases h0:0<=i
 ·have hj:i.toNat=j:=by rw[Zpx h5]at h1;exact bY h1
  exact item_listR pl.isList h0 Zb (by rw[hj];simpa using ew) fin hs
 ·have hj:(i+(its.toArray.size:Int)).toNat =j:=by rw[ZoF h4]at h1;rw[dR,←hl];exact bY h1
  exact Zu0 pl.isList.typeIs slot_list_getitem.lookup
   (wpAny_getItem_list_neg (Q:=λr s'=>r=w/\Yy r s') pl.isList Zb ZxT Zb (by rw[hj];simpa using ew) ⟨rfl,fin⟩) hs
theorem alP:zq X (qY X.K):=by
 ext bW
 ext aD;ext bn;ext bN;exact Zu0 pl.typeIs slot_tuple_getitem.lookup
  (getItem_tuple (j:=j) (Q:=λr s'=>r=w/\Yy r s') pl Zb Zb (by rw[dR,←hl];exact h1) ZxX ⟨rfl,fin⟩) hs
theorem EG:zq X uu:=by
 intro value slice pins s σ H x y v u Q I rx ry h hs;obtain⟨z,i,c,rfl,rfl,hz,he,q⟩:=h;ext h;ext N;obtain⟨j,h1,h2,h3,h4,h5⟩:=Oi he;have hl:z.cps.toList.length=z.length:=by simp[Str.length]
 rw[hl]at h1 h4 h5;have hn:=uR;exact tail_any (tq s z t) slot_str_getitem.lookup (getItem_str (c:=c) (by have e1:decide (i< -(2 ^ 63 :Int))=false:=aX Zb;have e2:decide (i>=2 ^ 63)=false:=aX Zb;rw[e1,e2,PD]) (by rw[h1];simpa using h2) ⟨Zkt,H,YL,Zs,q⟩) hs
theorem ald(its:Zq)(n j:Nat)(u:Value):Obj.mapSeq (·.setIfInBounds j u) {cls:=Yg,data:=VE n}={cls:=Yg,data:=.seq (its.set j u).toArray n}:=by simp[Obj.mapSeq]
theorem Inv.lst{pins:Zv}{σ:St}{H:Hp}{s:Shared}{p:Addr}{xs:Ze}(I:Zf)(h:Zqg):
  ∃(its:Zq) (n:Nat),UZ/\s.heap.get? p=some {cls:=Yg,data:=VE n}/\xs.length<=sizeLine:=by
 obtain⟨z,its,n,r,e⟩:=ZgW h;exact⟨its,n,r,e,z⟩
theorem Inv.ali{pins:Zv}{σ:St}{H:Hp}{s:Shared}{p:Addr}{xs ys:Ze}{its its':Zq}{n n':Nat}{f:Obj->Obj}(I:Zf)(h:Zqg)
  (ho:s.heap.get? p=some {cls:=Yg,data:=VE n}) (hf:f {cls:=Yg,data:=VE n}={cls:=Yg,data:=.seq its'.toArray n'}) (r:Zcc its') (hz:Zig) (t:Nat):
  Inv X pins σ (Vz ZdE) {s with heap:=s.heap.update p f,toks:=t}:=by
 have e:(s.heap.update p f).get? p=some {cls:=Yg,data:=.seq its'.toArray n'}:=by rw[zu f ho (by rw[hf]<;>rfl),hf]
 refine I.write (x:=p) (e:=p) (by rw[h];trivial) Xd (λb u hb q=>(Heap.get?_update_other _ _ (qt hb)).trans q) ⟨_,e⟩ ?_;exact⟨hz,its',n',r,e⟩
def uq:V->V->V->Hp->(Hp->Prop)->Prop:=λo i v H Q=>∃p xs k j,o=.ref p/\i=.int k/\H p=some Yw/\ZjJ k=some j/\Q ZuQ
theorem set_list:OQ X uq:=by
 intro pins s σ H o i v ov iv u Q I ro ri rv h;obtain⟨p,xs,k,j,rfl,rfl,hp,hj,q⟩:=h;cases ro
 obtain⟨t,rfl⟩:=ri;obtain⟨its,n,r,ho,hz⟩:=I.lst hp;obtain⟨h1,h2,h3,h4⟩:=abY hj;have hl:=r.length;have hn:=uR;have I':ZQ ZuQ {s with heap:=s.heap.update p (Obj.mapSeq (·.setIfInBounds j u))}:=
  I.ali hp ho (ald its n j u) (r.set rv j) (by rw[afu];exact hz) s.toks
 by_cases h0:0<=k
 ·have hk:k.toNat=j:=by rw[Zpx h4]at h1;exact bY h1
  exact PySem.W.ki_setAt ho h0 Zb (by rw[dR,←hl];exact h4) (by rw[hk];exact⟨_,I',q⟩)
 ·have hk:(k+(its.toArray.size:Int)).toNat =j:=by rw[ZoF h3]at h1;rw[dR,←hl];exact bY h1
  exact PySem.W.ki_setBack ho Zb (by rw[dR,←hl];exact h3) Zb (by rw[hk];exact⟨_,I',q⟩)
theorem ahp(lo hi:Vd)(n:Nat):(Zm0 n).1=((HT.iW n 0 lo:Nat):Int)/\(Zm0 n).2.1=((HT.iW n n hi:Nat):Int)/\(Zm0 n).2.2=1:=by
 refine⟨?_,?_,rfl⟩
 ·cases lo with
  |none=>simp[sliceBounds,HT.iW]
  |some i=>
   ext cb
   ·simp only[h,iD]<;>omega
   ·simp only[h,i5]<;>omega
 ·cases hi with
  |none=>simp[sliceBounds,HT.iW]
  |some i=>
   ext cb
   ·simp only[h,iD]<;>omega
   ·simp only[h,i5]<;>omega
theorem ahq(its:Zq)(lo hi:Vd):slicePick its.toArray lo hi none=((its.drop (Zov 0 lo)).take (Zov its.length hi-Zov 0 lo)).toArray :=by obtain⟨h1,h2,h3⟩:=ahp lo hi its.toArray.size;unfold slicePick;rw[h1,h2,h3];simp only[sliceRange_one,pick_run,dR]<;>rfl
def qW(K:PySem.W.Frag):V->Vd->Vd->Hp->VK->Prop:=λx lo hi H Q=>∃a xs,x=.ref a/\YJ/\∀p,H p=none->Q Z6 (Vz Zye)
theorem ahr:Ox X (qW X.K):=by
 intro pins s σ H x v vl vu lo hi sl Q I rx hs pl pu h;obtain⟨a,xs,rfl,hx,q⟩:=h;cases rx
 obtain⟨its,r,ht,hz⟩:=I.list hx;have hlen:=r.length;refine⟨"list",_,slot_list_getitem.lookup,ht.isList.typeIs,?_⟩;refine wpAny_getItem_list_slice ht.isList hs pl pu .none Zh ?_ ZxT;rw[ahq,←hlen];refine⟨Yn,_,Zno (o:=Zye) (λb ob q=>cV _ q) ZA ?_,rfl,q _ X4⟩;exact⟨cq (aqq xs lo hi) hz,_,0,(r.drop (ZhX 0 lo)).take ZuT,dj _ rfl⟩
def il:V->Bool
 | .ba =>true
 | .bl _=>true
 | .int _=>true
 | .str _=>true
 |_=>false
def jI:V->V->Bool
 | .ba,.ba =>true
 | .bl a,.bl b=>a==b
 | .bl a,.int b=>(if a then 1 else 0)==b
 | .int a,.bl b=>a==(if b then 1 else 0)
 | .int a,.int b=>a==b
 | .str a,.str b=>a==b
 |_,_=>false
theorem ap9{A:Around}{s:Shared}{y x:V}{u v:Value}(ry:XB)(rx:W0)(fy:il y=true)(fx:il x=true):SeqAt.EqAt A s u v (jI y x):=by
 cases y with
 |ba=>
  cases ry
  cases x with
  |ba=>cases rx;exact SeqAt.EqAt.same _
  |bl b=>cases rx;exact SeqAt.EqAt.none_bool b
  |int b=>obtain⟨t,rfl⟩:=rx;exact SeqAt.EqAt.none_int b t
  |str b=>obtain⟨t,rfl⟩:=rx;exact SeqAt.EqAt.none_str b t
  |_=>exact Zht
 |bl a=>
  cases ry
  cases x with
  |ba=>cases rx;exact SeqAt.EqAt.bool_none a
  |bl b=>cases rx;exact SeqAt.EqAt.bool_bool a b
  |int b=>obtain⟨t,rfl⟩:=rx;exact SeqAt.EqAt.bool_int a b t
  |str b=>obtain⟨t,rfl⟩:=rx;exact SeqAt.EqAt.bool_str a b t
  |_=>exact Zht
 |int a=>
  ext N;cases x with
  |ba=>cases rx;exact SeqAt.EqAt.int_none a t'
  |bl b=>cases rx;exact SeqAt.EqAt.int_bool a t' b
  |int b=>obtain⟨t,rfl⟩:=rx;exact SeqAt.EqAt.int_int a t' b t
  |str b=>obtain⟨t,rfl⟩:=rx;exact SeqAt.EqAt.int_str a t' b t
  |_=>exact Zht
 |str a=>
  ext N;cases x with
  |ba=>cases rx;exact SeqAt.EqAt.str_none a t'
  |bl b=>cases rx;exact SeqAt.EqAt.str_bool a t' b
  |int b=>obtain⟨t,rfl⟩:=rx;exact SeqAt.EqAt.str_int a t' b t
  |str b=>obtain⟨t,rfl⟩:=rx;exact SeqAt.EqAt.str_str a t' b t
  |_=>exact Zht
 |_=>exact absurd (show false=true from fy) eh
def iL(x:V)(u:Value):Bool:=match u with
 | .none =>jI .ba x
 | .bool b=>jI WA x
 | .int i _=>jI Xs x
 | .str z _=>jI Zd5 x
 |_=>false
theorem By{x y:V}{u:Value}(r:XB)(f:il y=true):U7 u=jI y x:=by
 cases y with
 |ba=>cases r;rfl
 |bl b=>cases r;rfl
 |int i=>obtain⟨t,rfl⟩:=r;rfl
 |str z=>obtain⟨t,rfl⟩:=r;rfl
 |_=>exact absurd (show false=true from f) eh
theorem BO{x:V}:∀{xs:Ze} {us:Zq},WC->xs.all il=true->us.any U7=xs.any λy=>jI y x
 |_,_,.nil,_=>rfl
 |y::xs,u::us,.cons r t,f=>by rw[hZ,aP]at f;rw[ka,ka,By r f.1,BO t f.2]
theorem uO{A:Around}{s:Shared}{x:V}{v:Value}(rx:W0)(fx:il x=true):∀{xs:Ze} {us:Zq},WC->xs.all il=true->∀u∈us,SeqAt.EqAt A s u v (U7 u)
 |_,_,.nil,_=>λu hu=>by cases hu
 |y::xs,u::us,.cons r t,f=>λu' hu=>by
  rw[hZ,aP]at f;rcases aJ.mp hu with rfl|hu
  ·rw[By r f.1];exact ap9 r rx f.1 fx
  ·exact uO rx fx t f.2 u' hu
def m8(x:V)(xs:Ze):Bool:=xs.any λy=>jI y x
def q_(K:PySem.W.Frag)(neg:Bool):R2:=λx y H Q=>∃p xs,y=.ref p/\(XD p xs∨Vv p xs)/\il x=true/\xs.all il=true/\Q (.bl (if neg then !m8 x xs else m8 x xs)) H
theorem aiS:Zif (q_ X.K false):=by
 ext m;ext c7
 rcases hq with hq|hq
 ·ext ap;refine SeqAt.in_listAt U7 pl.isList Zhk Ze0;ext aa
 ·ext bn;refine SeqAt.in_tupleAt U7 pl Zhk Ze0;ext aa
theorem aiO:ZmI (q_ X.K true):=by
 ext m;ext c7
 rcases hq with hq|hq
 ·ext ap;refine SeqAt.notIn_listAt U7 pl.isList Zhk Ze0;ext aa
 ·ext bn;refine SeqAt.notIn_tupleAt U7 pl Zhk Ze0;ext aa
theorem arj:YR Yg (λxs H Q=>∃p ys,xs=[.ref p]/\(ZaY p ys∨ZaZ p ys)/\∀l,H l=none->ZY (WE ZdE)):=by
 ext z;obtain⟨p,ys,rfl,hq,q⟩:=h;obtain⟨u,rfl,rx⟩:=o6 r;cases rx
 have fin:∀(its:Zq),Zcc its->ys.length<=sizeLine->∀(h':Heap) (c':Nat),(∀b o',s.heap.get? b=some o'->h'.get? b=some o')->
   h'.get? s.heap.objs.size=some {cls:=Yg,dict:=none,data:=VE c',slots:=#[]}->Yy Yn {s with heap:=h'}:=λits r' hz h' c' kp e=>
  ⟨Yn,_,Zno kp ZA (show WM _ h' _ ZdE from⟨hz,its,c',r',e⟩),rfl,q _ X4⟩
 rcases hq with hq|hq
 ·obtain⟨its,r',pl,hz⟩:=UL;ext aJ;obtain⟨o,ho,hc,n,hd⟩:=pl.isList;exact call_list_seq p Xd ho hc hd Zsu Zve
 ·obtain⟨its,r',pl,hz⟩:=Zfy;ext aJ;obtain⟨o,ho,hc,n,hd⟩:=pl;exact call_list_seq p Zdy ho hc hd Zsu Zve
def CI(K:PySem.W.Frag)(T:String)(x:V)(H:Hp):Prop:=match x with
 | .str _=>T="str"
 | .int _=>T="int"
 | .ref p=>(T="list"/\∃xs,Zg0)∨(T="tuple"/\∃o,K.lookup p=some o/\o.cls=.type "tuple"/\o.dict=none)∨
   (T="dict"/\((∃kvs,H p=some YA)∨∃kvs,H p=some ZaC))∨(T="set"/\∃S n,H p=some (.set S n))
 |_=>False
theorem agz{pins:Zv}{σ:St}{H:Hp}{s:Shared}{T:String}{x:V}{v:Value}(I:Zf)(r:W0)(ty:CI X.K T x H):
  s.TypeIs v T/\∀a,v=.ref a->∃ob,s.heap.get? a=some ob/\ob.dict=none:=by
 cases x with
 |str z=>
  ext A;cases(show T="str"from ty)
  exact⟨tq s z t,λ_ e=>nomatch e⟩
 |int i=>
  ext A;cases(show T="int"from ty)
  exact⟨typeIs_int s i t,λ_ e=>nomatch e⟩
 |ref p=>
  cases r
  rcases ty with⟨rfl,xs,hq⟩|⟨rfl,o,hk,hc,hd⟩|⟨rfl,hk⟩|⟨rfl,S,n,hk⟩
  ·obtain⟨its,_,pl,_⟩:=UL;refine⟨pl.isList.typeIs,λa e=>?_⟩;cases e
   obtain⟨o,n,e,c,hd,_⟩:=pl;exact⟨o,e,hd⟩
  ·refine⟨⟨o,I.kr p o hk,hc⟩,λa e=>?_⟩;cases e
   exact⟨o,I.kr _ o hk,hd⟩
  ·have z:∃o,s.heap.get? p=some o/\o.ExactDict:=by
    rcases hk with⟨kvs,hk⟩|⟨kvs,hk⟩
    ·ext cl
    ·ext cl
   obtain⟨o,e,ex⟩:=z;refine Zu4;cases e2
   exact⟨o,e,ex.2.1⟩
  ·obtain⟨o,_,_,_,e,ex,_⟩:=ZgW hk;refine Zu4;cases e2
   exact⟨o,e,ex.2.1⟩
 |_=>exact False.elim ty
def qM(K:PySem.W.Frag)(T:String)(r:Uh)(to:TE)(t:TA):TE:=fun σ H Q=>to σ H λx H1=>CI K T x H1/\t σ H1 λxs H2=>r x xs H2 Q
variable {o e:Expr}{es:Ya}{to:TE}{t:TA}{name:Str}{apos gq:Pos}{T id:String}{r:Uh}
theorem aiD(pa:PlainAttrs T)(slot:Slot T name id)(rY:Zhg)(hm:ZkN)(ho:UT)(ha:VH t)
  (lC:Zi9 Us=Za7 X.env:=by rfl)
  (Bb:((ZbX Zqm).all ZqO&&(backToKw gq Zh0).all ZnX
   &&decide ((e::es).length +([]:List Keyword).length +(if([]:List Keyword).isEmpty then 0 else 1)<30))=true:=by rfl)
  (lz:(apos.endLine==gq.line)=true:=by rfl) (hs:Va X.env=(false,Yv)::VN X.env:=by rfl) (LB:(ZbX WJ).any Zg=false:=by rfl):
  PE X ZwI (qM X.K T r to t):=by
 ext f;refine wpAny_Call_method_late lC Bb lz rfl (aM ZcC λv s1 ⟨x,H1,I1,r1,ty,q1⟩=>?_);obtain⟨h1,h2⟩:=agz I1 r1 ty;refine⟨T,id,pa,slot,rY,h1,h2,?_⟩;have hA:=ha gq pins s1 σ H1 _ I1 q1;rw[hs]at hA⊢;refine Py (by show(false||(ZbX WJ).any Zg)=false;rw[LB]<;>rfl) (afY ?_);exact aM hA λus s2 ⟨vs,H2,I2,r2,q2⟩=>hm pins s2 σ H2 x vs v us Q I2 r1 r2 q2
end
end L2
namespace L2
open PySem PySem.Spec PyProof.Rows
def MtM(X:Cx)(id:String)(r:Uh):Prop:=
 ∀(pins:Zv) (s:Shared) (σ:St) (H:Hp) (x:V) (xs:Ze) (v:Value) (us:Zq) (Q:VK),Zf->W0->WC->r x xs H Q->
  wpAny Yd X.A Zyy Yy X.xe s
theorem Vals.one:∀{x:V} {us:Zq},Vals [x] us->∃u,us=[u]/\Zck u
 |_,_,.cons r .nil =>⟨_,rfl,r⟩
theorem Vals.rep{xs:Ze}{us:Zq}(h:WC):∀k:Nat,Vals (ZcV xs).flatten (ZcV us).flatten
 |0=>.nil
 |k+1=>by rw[G7,G7,nG,nG];exact Vals.append h (Vals.rep h k)
theorem foldl_rep(its:Zq):∀(k:Nat) (acc:Zq),
  List.foldl ZnW acc.toArray (ZcV its.toArray)=(acc++(ZcV its).flatten).toArray
 |0,acc=>by simp
 |k+1,acc=>by
  have e:acc.toArray++its.toArray=(acc++its).toArray :=by simp
  have e2:(acc++its)++(ZcV its).flatten =acc++(List.replicate YQ its).flatten :=by rw[G7,nG,eC]
  rw[←e2,←foldl_rep its k (acc++its),←e,G7,wk]
section
variable {X:Cx}{pins:Zv}{σ:St}{H:Hp}{s:Shared}{l b:Addr}{xs ys zs:Ze}
theorem Inv.abb{its its':Zq}{n:Nat}{f:YN->YN}{t':Nat}(I:Zf)(hH:H l=some Yw)
  (e:s.heap.get? l=some {cls:=Yg,data:=VE n}) (hf:f its.toArray=its'.toArray) (hv:Zcc its') (hz:Zig):
  Inv X pins σ (WE ZdE) {s with heap:=s.heap.update l (Obj.mapSeq f),toks:=t'}:=by
 have q:=PySem.IsL.update e f;rw[hf]at q;refine I.write (x:=l) (e:=l) (by rw[hH];exact trivial) Xd (λb' u hb hu=>(Heap.get?_update_other s.heap (Obj.mapSeq f) (qt hb)).trans hu) ⟨_,q⟩ ?_;exact⟨hz,its',_,hv,q⟩
theorem Inv.abm{its:Zq}{t':Nat}(I:Zf)(hv:Zcc its)(hz:Zig):
  Inv X pins σ (Wl ZdE) {s with heap:=s.heap.push {cls:=.type "list",data:=.seq its.toArray},toks:=t'}:=
 I.laid ZnV ZA ⟨hz,its,0,hv,dj _ rfl⟩
theorem Inv.fresh(I:Zf):H s.heap.objs.size=none:=X4
theorem Inv.xJ(I:Zf)(hH:H l=some Yw):xs.length<=sizeLine/\∃(its:Zq) (n:Nat),UZ/\xs.length=its.length/\s.heap.get? l=some {cls:=Yg,data:=VE n}:=by obtain⟨z,its,n,r,e⟩:=I.aC l _ hH;exact⟨z,its,n,r,r.length,e⟩
theorem El{n:Nat}(h:ZqK):Builtin.List.listTooLong n=false:=by unfold Builtin.List.listTooLong;exact aX Zb
end
section
variable {X:Cx}
def uA:V->Ze->Hp->VK->Prop:=λx vs H Q=>∃l xs y,x=.ref l/\vs=[y]/\H l=some Yw/\xs.length<sizeLine/\Q .ba (WE (.lst (xs++[y])))
theorem gO:MtM X "list.append" uA:=by
 ext ds;obtain⟨l,xs,y,rfl,rfl,hH,hz,q⟩:=h;cases rx
 obtain⟨u,rfl,ru⟩:=rv.one;ext an;refine qi F.slot_list_append Zdd F.entry_list_append (F.args_list_append_2 _ _) (PySem.list_append l its.toArray n u (by rw[dR];omega)) ⟨e,?_⟩;refine⟨.ba,_,I.abb (its':=its++[u]) hH e Zh (r.append Zop) ?_,rfl,q⟩;rw[bS,O8];omega
def uw:V->Ze->Hp->VK->Prop:=λx vs H Q=>∃l b xs zs,x=.ref l/\vs=[.ref b]/\H l=some Yw/\H b=some (.lst zs)/\xs.length+zs.length<=sizeLine/\Q .ba (WE (.lst (xs++zs)))
theorem oj:MtM X "list.extend" uw:=by
 ext ds;ext cF
 obtain⟨u,rfl,ru⟩:=rv.one;cases ru
 ext an;obtain⟨z2,lx,n2,r2,bH,e2⟩:=I.xJ hB;have hsz:its.toArray.size+lx.toArray.size<=sizeLine:=by rw[dR,dR];omega
 have LO:¬(!its.toArray.isEmpty&&Builtin.List.listTooLong (its.toArray.size+lx.toArray.size))=true:=by rw[El hsz,Hr];exact eh
 refine qi F.slot_list_extend Zdd F.entry_list_extend (F.args_list_extend_2 _ _)
  (AutoSeq1.list_extend_list_list_0 l its.toArray n b lx.toArray n2 LO (by rw[dR];omega) Zb) ⟨e,e2,?_⟩
 refine⟨.ba,_,I.abb (its':=its++lx) hH e Zh (r.append r2) ?_,rfl,q⟩;rw[bS];omega
def uz:R2:=λx y H Q=>∃l b xs zs,x=.ref l/\y=.ref b/\H l=some Yw/\H b=some (.lst zs)/\xs.length+zs.length<=sizeLine/\∀p,H p=none->Q Z6 (Vz (.lst (xs++zs)))
theorem lg:Znj uz:=by
 ext m;ext cF
 cases ry
 ext an;obtain⟨z2,lx,n2,r2,bH,e2⟩:=I.xJ hB;refine PySem.P.add_list e e2 ?_ (by rw[dR,dR];omega);have ea:its.toArray++lx.toArray=(its++lx).toArray :=by simp
 rw[ea];exact⟨.ref _,_,I.abm (t':=s.toks) (r.append r2) (by rw[bS];omega),rfl,q _ I.fresh⟩
def ur:R2:=λx y H Q=>∃l k xs,x=.ref l/\y=.int k/\H l=some Yw/\ -(2 ^ 63)<=k/\k<2 ^ 63/\xs.length*k.toNat<=sizeLine/\
 ∀p,H p=none->Q Z6 (Vz (.lst (Zxd xs).flatten))
theorem len_rep{α:Type}(xs:ZN)(k:Nat):(ZcV xs).flatten.length =k*xs.length:=by
 induction k with
 |zero=>simp
 |succ k ih=>rw[G7,nG,bS,ih,Nat.succ_mul,G5]
theorem aaG:Zx2 ur:=by
 ext m;obtain⟨l,k,xs,rfl,rfl,hH,h1,h2,hz,q⟩:=h;cases rx
 ext aD;ext an;have hlen:its.toArray.size*k.toNat<=sizeLine:=by rw[dR,←hl];exact hz
 have anA:¬its.toArray.size*k.toNat>(2 ^ 63-1) / 8:=by
  have:(sizeLine:Nat)<=(2 ^ 63-1) / 8:=by decide
  omega
 have anp:¬(!Builtin.List.listFitsIndex k)=true:=by rw[fitsIndex_both h1 h2];exact eh
 have LO:¬Builtin.List.listTooLong (its.toArray.size*k.toNat)=true:=by rw[El hlen];exact eh
 have amQ:List.foldl ZnW #[] (List.replicate (if its.toArray.isEmpty=true then 0 else k.toNat) its.toArray)=(Zxd its).flatten.toArray :=by
  have f0:∀m:Nat,List.foldl ZnW #[] (List.replicate m its.toArray)=(List.replicate m its).flatten.toArray :=λm=>by have:=foldl_rep its m [];rw[my]at this;exact this
  rw[f0];cases its with
  |nil=>simp
  |cons a r'=>rw[ae Zh]
 refine wpAny_binaryOp_repeat_ref (T:="list") (U:="int") Zk Zdd (λs'=>typeIs_int s' k t) noFill_list_mul F.fills_int_mul F.slot_int_rmul repeat_list F.slot_int_index.lookup
  (qi F.slot_int_rmul (typeIs_int s k t) F.entry_int_rmul (F.args_int_rmul_2 _ _) (int___rmul___int_list k t l its.toArray n)
   ⟨e,rfl,⟨_,e,rfl⟩,qi F.slot_list_mul ⟨_,e,rfl⟩ F.entry_list_mul (F.args_list_mul_2 _ _) (AutoListH.list___mul___list_int_3 l its.toArray n k t anp anA LO) ⟨e,?_⟩⟩)
 rw[amQ];exact⟨.ref _,_,I.abm (t':=s.toks) (r.rep k.toNat) (by rw[len_rep,Nat.mul_comm];exact hz),rfl,q _ I.fresh⟩
end
section
variable {prog:Program}{w:World}{A:Around}{E:Zt}{s:Shared}
theorem arw{a c n:Nat}(hac:a<=c)(hc:c<=n):sliceBounds Zi6 Zo4 none n=((a:Int),(c:Int),1):=by
 simp only[sliceBounds,aeO];have h1:¬((a:Int)<0):=by omega
 have h2:¬((c:Int)<0):=by omega
 simp only[h1,h2,i5,show(1 :Int)>0 by decide,iD];congr 1
 ·omega
 ·congr 1;omega
set_option maxRecDepth 100000 in
theorem atA{l b sl:Addr}{items new:YN}{n n2:Nat}{vl vu:Value}{a c:Nat}{Q:Zaj}
    (e:s.heap.get? l=some {cls:=Yg,data:=.seq items n}) (e2:s.heap.get? b=some {cls:=Yg,data:=.seq new n2}) (aK:l≠b)
    (hs:Zwb .none) (pl:IsPart vl Zi6) (pu:IsPart vu Zo4) (hac:a<=c) (hc:c<=items.size)
    (hsz:items.size+new.size<=sizeLine) (h:Q () {s with heap:=s.heap.update l (Obj.mapSeq λxs=>xs.extract 0 a++new++xs.extract c xs.size)}):
    wpAny Y5 A (setItem Z5 Zgw ZdL) Q E s:=by
  have hl:Zfp items:=PySem.IsL.isList e;have hb:s.heap.IsList b new:=PySem.IsL.isList e2;obtain⟨os,E5,Me,L9⟩:=id hs;have hTs:s.TypeIs Zgw "slice":=⟨os,E5,Me⟩;have amt:¬((rawPart none==rawInt 0)=true):=eh;have Ls:Builtin.List.listSameRef Z5 ZdL=false:=by unfold Builtin.List.listSameRef;exact ip.mpr aK
  have amX:(max (a:Int) (c:Int)).toNat =c:=by omega
  have br:((λxs:Array Value=>xs.extract 0 a++new++xs.extract c xs.size) items).size <=sizeLine+1:=by simp only[Array.size_append,Array.size_extract];omega
  unfold setItem
  try with_reducible refine nN ?_
  first |refine aj (aL ?_)|skip
  refine aj (wpAny_sequenceKey hl.typeIs Zk ?_);refine aj (wK (name:=Str.ofString "__setitem__") hl.typeIs slot_list_setitem
    (mJ slot_list_setitem hl.typeIs entry_list_setitem ?_ (args_list_setitem _ _ _)))
  show YF (Builtin.List.listSubscript? Zgw>>= _) _ _ s;ext q;unfold Builtin.List.listSubscript?;refine aj (PU hTs slice_no_index ?_);simp only[Option.isNone_none,iD];refine Ys;show YF (typeOf Zgw>>= _) _ _ s;refine aj (wpAny_typeOf hTs ?_)
  first
    | rw[ae (by decide)]
    | refine aeJ (by decide) ?_
  rw[listSliceParts_eq];refine aj (aj (nO E5 L9 (x:=.none) rfl (aj (PZ .none ?_))));rw[ae amt];refine aj (nO E5 L9 (x:=vl) rfl (aj (PZ pl ?_)));refine aj (nO E5 L9 (x:=vu) rfl (aj (PZ pu Ys)))
  first
    | simp only[Ls,kf,i5]
    | refine aeJ Ls ?_
    | (dsimp only
       rw[ae (by rw[Ls];exact eh)])
  refine aj (m:=Builtin.List.listAllItems ZdL "must assign iterable to extended slice") ?_;unfold Builtin.List.listAllItems;refine aj (wpAny_typeOf hb.typeIs ?_)
  first
    | refine PySem.W.KFB.if_so (by decide) ?_
    | rw[af (by decide)]
    | simp only[sN,Bool.true_or,iD]
  unfold Builtin.List.listItems;refine aj (s_ e2 rfl (aL ?_));refine aj (aj (s_ e rfl (aL ?_)));refine aj (CB ((sliceIndices_raw Zi6 Zo4 none items.size Zh).trans (cb (pure:Int×Int×Int->Sem (Int×Int×Int)) (arw hac hc))) ?_);show YF (if((1 :Int)==1)=true then _ else _) _ _ s;rw[af Zk];refine aj (Hy ?_)
  first
    | simp only[El hsz,kf,i5]
    | refine aeJ (El hsz) ?_
  first |refine aj (aL ?_)|skip
  show YF (updateSeq l (λxs=>xs.extract 0 ((a:Int)).toNat ++new++xs.extract (max (a:Int) (c:Int)).toNat xs.size)>>= _) _ _ s;rw[amX,mE];refine aj (wpAny_updateSeq (hz:=cq (zi _ _) hsz) (_hz':=br) e rfl ?_);refine aj (HE ?_)
  first
    | exact aj (aL (aL ⟨.none,rfl,aL h⟩))
    | exact aL ⟨.none,rfl,aL h⟩
end
section
variable {X:Cx}
end
end L2
namespace L2
open PySem PySem.Spec PyProof.Rows
theorem Vals.ints:∀{ns:ZK} {us:Zq},Vals Zfs us->IntsAre us ns
 |[],us,h=>by
  rw[wj]at h;cases h
  exact IntsAre.nil
 |n::ns,us,h=>by
  rw[cw]at h;cases h with
  |cons r t=>
   obtain⟨k,rfl⟩:=r;exact IntsAre.cons n k (Vals.ints t)
theorem agw:∀{us:Zq} {ns:ZK},IntsAre us ns->Vals Zfs us
 |_,_,.nil =>by rw[wj];exact Paired.nil
 |_,_,.cons n t h=>by rw[cw];exact Paired.cons (show RelV (V.int n) (Value.int n t)from Vk) (agw h)
theorem Vals.Oe:∀{bs:ZkB} {us:Zq},Vals Zpp us->us=bs.map Value.bool
 |[],us,h=>by
  rw[wj]at h;cases h
  rfl
 |b::bs,us,h=>by
  rw[cw]at h;cases h with
  |cons r t=>
   cases r
   rw[Vals.Oe t,cw]
theorem Vals.J4{a:Addr}{us:Zq}(r:Vals [V.ref a] us):us=[Value.ref a]:=by
 cases r with
 |cons r t=>
  cases t
  cases r
  rfl
section
variable {prog:Program}{w:World}{A:Around}{E:Zt}{s:Shared}{l:Addr}{its:Zq}{ns:ZK}{Q:Zt}
theorem ag6(hh:Vc)(hl:Zfp its.toArray)(hi:IntsAre its ns)
  (h:∀h' tk t',(∀b o,s.heap.get? b=some o->h'.get? b=some o)->Q (.int ns.sum t') {s with heap:=h',toks:=tk}):YC (call ZiG [.ref l]) Q E s:=by
 obtain⟨xs,e⟩:=hi.allInts.items;have hn:numsOf (intItems xs).toList =ns:=by rw[←e];exact hi.numsOf
 rw[nums_intItems]at hn;rw[e]at hl;refine PySem.sum_intListG hh hl λh' tk t' hk=>?_;have:=h h' tk t' hk;rw[preSum_eq,we Zh,hn];exact this
end
section
variable {X:Cx}
def qV(K:PySem.W.Frag):Ze->Hp->VK->Prop:=λvs H Q=>∃(a:Addr) (ns:ZK),vs=[V.ref a]/\XD a Zfs/\Q (.int ns.sum) H
theorem aqu(hc:Xz):YR ZiG (qV X.K):=by intro pins s σ H vs us Q I r h;obtain⟨a,ns,rfl,hs,q⟩:=h;obtain⟨its,rv,hl,_⟩:=ZkA;rw[Vals.J4 r];exact ag6 YV hl.isList rv.ints λh' tk t' hk=>⟨.int _,H,I.kept hk,Zs,q⟩
end
section
variable {X:Cx}
def J8(K:PySem.W.Frag):V->Ze->Hp->VK->Prop:=λx xs H Q=>∃(a:Addr) (ys:Ze) (y:V) (j:Nat) (z:V),x=V.ref a/\xs=[y]/\XD a ys/\il y=true/\ys.all il=true/\ys[j]? =some z/\jI z y=true/\
 (∀(m:Nat) (z':V),m<j->ys[m]? =some z'->jI z' y=false)/\Q (.int (j:Nat)) H
theorem adp{ys:Ze}(f:ys.all il=true){j:Nat}{z:V}(h:ys[j]? =some z):il z=true:=dh.mp f z (bI h)
theorem akY:oS X "list.index" (J8 X.K):=by
 ext dp;obtain⟨a,ys,y,j,z,rfl,rfl,hs,fy,yL,hz,hzj,gD,q⟩:=h;cases rx
 cases rxs with
 |cons ry rt=>
  rename_i uy ut;cases rt
  ext bV;obtain⟨u,hu,ru⟩:=rv.get hz;obtain⟨hjl,hje⟩:=iQ.mp hu;have ET:=rv.length;have hj:j<its.toArray.size:=by simpa using hjl
  have Lr:=zQ;refine qi Ga ⟨_,ho,rfl⟩ PySem.F.entry_list_index (PySem.F.args_list_index_2 _ _)
   (SeqAt.list_indexAt a its.toArray n dd sl uy (iL y) j hj Zb ?_ ?_) ZrB
  ·have e1:its.toArray[j]=u:=by simpa using hje
   rw[e1,By ru (adp yL hz)];exact hzj
  ·intro m hm hmj;have pU:m<its.length:=by simpa using hm
   have hmy:m<ys.length:=by omega
   have jX:ys[m]? =some ys[m]:=fP hmy;obtain⟨u2,pQ,JT⟩:=rv.get jX;obtain⟨_,hme⟩:=iQ.mp pQ;have e1:its.toArray[m]=u2:=by simpa using hme
   rw[e1,By JT (adp yL jX)];exact gD m _ hmj jX
  ·exact⟨.int (j:Nat),H,YL,Zs,q⟩
end
section
variable {X:Cx}
end
theorem ab0{prog:Program}{w:World}{A:Around}{E:Zt}{s:Shared}{l:Addr}{items:YN}{Q:Zt}(hl:Zfp items)
  (h:∀s₂:Shared,s₂={s with heap:=s.heap.push {cls:=.type "list_iterator",data:=.fields #[.ref l,.int 0 0]}}->
   (s₂.heap.IsListIter s.heap.objs.size l 0/\s₂.heap.IsList l items)->l≠s.heap.objs.size->Q (.ref s.heap.objs.size) s₂):wpAny (model prog w) A (pyIter (.ref l)) Q E s:=by
 have bG:l<s.heap.objs.size:=by obtain⟨_,e,_⟩:=hl;exact YZ
 exact qD hl (h _ rfl ⟨ZcF,hl.push _⟩ (eB bG))
theorem Qc{prog:Program}{w:World}{A:Around}{bs:ZkB}{its:Zq}(e:its=bs.map Value.bool):
  TruthOf prog w A (λi v=>its.toArray[i]? =some v) ZmM:=λi v s Q E hv hq=>by
 have ig:its[i]? =some v:=by simpa using hv
 rw[e,cx]at ig;obtain⟨b,hb,rfl⟩:=Option.map_eq_some_iff.mp ig;have hg:bs.getD i false=b:=by rw[jN,hb]<;>rfl
 have cF:Q (bs.getD i false) s:=hq;rw[hg]at cF;exact qC cF
theorem any_range:∀bs:List Bool,(List.range bs.length).any ZmM=bs.any id
 |[]=>rfl
 |b::bs=>by
  rw[bb,O4,ka,wq,ka,←any_range bs]
  all_goals rfl
theorem all_range:∀bs:List Bool,(List.range bs.length).all ZmM=bs.all id
 |[]=>rfl
 |b::bs=>by
  rw[bb,O4,hZ,mC,hZ,←all_range bs]
  all_goals rfl
section
variable {X:Cx}
def rg(K:PySem.W.Frag):Ze->Hp->VK->Prop:=λvs H Q=>∃(a:Addr) (bs:ZkB),vs=[V.ref a]/\XD a Zpp/\Q (.bl (bs.any id)) H
def rh(K:PySem.W.Frag):Ze->Hp->VK->Prop:=λvs H Q=>∃(a:Addr) (bs:ZkB),vs=[V.ref a]/\XD a Zpp/\Q (.bl (bs.all id)) H
theorem aqv(hc:Xz):YR Zn1 (rg X.K):=by
 ext bP;refine call_any_walk Ztd;ext bI
 ·rcases aJ.mp jA with e1|jA
  ·exact ZwR
  ·cases jA
 ·show Value.bool _=Value.bool _;rw[←any_range,hb,dR,aq]
theorem aqw(hc:Xz):YR Zn0 (rh X.K):=by
 ext bP;refine call_all_walk Ztd;ext bI
 ·rcases aJ.mp jA with e1|jA
  ·exact ZwR
  ·cases jA
 ·show Value.bool _=Value.bool _;rw[←all_range,hb,dR,aq]
end
mutual
inductive Dp(K:PySem.W.Frag)(H:Hp):V->PyData->Prop
 |ba:Dp K H .ba .none
 |bl (b:Bool):Dp K H (.bl b) (.bool b)
 |int (i:Int):Dp K H (.int i) (.int i)
 |str (x:Str):Dp K H (.str x) (.str x)
 |lst {a:Addr} {xs:List V} {ds:List PyData}:ag K H a xs->wC K H xs ds->Dp K H (.ref a) (.list ds)
 |tup {a:Addr} {xs:List V} {ds:List PyData}:bM K H a xs->wC K H xs ds->Dp K H (.ref a) (.tuple ds)
inductive wC(K:PySem.W.Frag)(H:Hp):Ze->List PyData->Prop
 |nil:wC K H [] []
 |cons {v:V} {vs:List V} {d:PyData} {ds:List PyData}:Dp K H v d->wC K H vs ds->wC K H (v::vs) (d::ds)
end
section
variable {X:Cx}{pins:Zv}{σ:St}{H:Hp}{s:Shared}
mutual
theorem Dp.reads(I:Zf):∀(d:PyData) (v:V) (u:Value),Dp X.K H v d->XS->∃as,Reads s.heap u d as
 | .none,_,_,h,r=>by
  cases h
  cases r
  exact⟨_,Reads.none⟩
 | .bool b,_,_,h,r=>by
  cases h
  cases r
  exact⟨_,Reads.bool b⟩
 | .int i,_,_,h,r=>by
  cases h
  ext A;exact⟨_,Reads.int i t⟩
 | .str x,_,_,h,r=>by
  cases h
  ext A;exact⟨_,Reads.str x t⟩
 | .list ds,_,_,h,r=>by
  cases h with
  |lst hs ha=>
   cases r
   obtain⟨its,rv,⟨o,n,ho,hc,_,hd⟩,_⟩:=ZkA;obtain⟨as,hr⟩:=ZnH its ha rv;exact⟨_,Reads.list ho hc hd hr⟩
 | .tuple ds,_,_,h,r=>by
  cases h with
  |tup hs ha=>
   cases r
   obtain⟨its,rv,⟨o,ho,hc,n,hd⟩,_⟩:=I.tuple hs;obtain⟨as,hr⟩:=ZnH its ha rv;exact⟨_,Reads.tuple ho hc hd hr⟩
 | .dict _,_,_,h,_=>by cases h
theorem Dp.readsAll(I:Zf):∀(ds:List PyData) (vs:Ze) (us:Zq),wC X.K H vs ds->ZaH->∃as,ReadsAll s.heap us ds as
 |[],_,_,h,r=>by
  cases h
  cases r
  exact⟨_,ReadsAll.nil⟩
 |d::ds,_,_,h,r=>by
  cases h with
  |cons h1 h2=>
   cases r with
   |cons r1 r2=>
    obtain⟨as,q1⟩:=Zgg d _ _ h1 r1;obtain⟨bs,q2⟩:=ZnH _ h2 r2;exact⟨_,ReadsAll.cons q1 q2⟩
end
end
section
variable {X:Cx}
def ahY(K:PySem.W.Frag):R2:=λx y H Q=>∃d e,Dp K H x d/\Dp K H y e/\SeqAt.shaped d=true/\SeqAt.shaped e=true/\Q (.bl (!PyData.eqv d e)) H
theorem aiQ(hu:ZnP):ZmH (ahY X.K):=by intro pins s σ H x y v u Q I rx ry h;obtain⟨d,e,hd,he,sd,se,q⟩:=h;obtain⟨as,r1⟩:=Zgg d x v hd rx;obtain⟨bs,r2⟩:=Zgg e y u he ry;exact SeqAt.compareNe_shaped r1 r2 sd se hu ⟨.bl _,H,I,rfl,q⟩
end
end L2
namespace L2
open PySem PySem.Spec PyProof.Rows
abbrev afX(h:Heap)(c:Addr)(v:Zad):Prop:=h.IsCell c v
def ahS(scope sc:Scope):Scope:=
 {scope with names:=scope.names.map λ(n,k)=>if(k==.free &&sc.kind==.function &&sc.names.lookup n==some .cell)then(n,.cell)else(n,k)}
def gI(cells:Y3):VB->Y3->List Zj4
 |[],acc=>acc
 |(n,k)::r,acc=>if k==.free then gI cells r ((n,(cells.lookup n).getD 0)::acc)else gI cells r acc
theorem ad7(env:Env)(f:Str×NameKind->Y3->Sem (ForInStep Y3))
  (hf:∀n k c,f (n,k) c=if k==.free then(do let a←cellOf env n;pure (.yield ((n,a)::c)))else pure (.yield c)):
  ∀(names:VB) (acc:Y3),(∀y∈names,y.2=.free ->∃c,env.cells.lookup y.1=some c)->forIn names acc f=pure (gI env.cells names acc)
 |[],acc,_=>by rw[O_];rfl
 |(n,k)::r,acc,h=>by
  rw[afD,hf];have ih:=λacc=>ad7 env f hf r acc λy hy=>h y ZdT;unfold gI;by_cases hk:(k==NameKind.free)=true
  ·rw[af hk,af hk];obtain⟨c,hc⟩:=h (n,k) aY (by simpa using hk);have e:cellOf env n=pure c:=by unfold cellOf;rw[hc]
   rw[e];have e2:(env.cells.lookup n).getD 0=c:=by rw[hc];rfl
   rw[e2];exact ih _
  ·rw[ae hk,ae hk];exact ih _
theorem aqL{scope:Scope}{env:Env}(h:∀y∈scope.names,y.2=.free ->∃c,env.cells.lookup y.1=some c):closureFor scope env=pure (gI env.cells scope.names []):=by simp only[closureFor];rw[ad7 env _ (λn k c=>rfl) scope.names [] h];rfl
theorem KW{α:Type}:∀{l:List (Str×α)} {n:Str} {c:α},(n,c)∈l->∃c',l.lookup n=some c'
 |(k,v)::r,n,c,h=>by
  rw[zl];cases hb:n==k with
  |true=>exact Zs
  |false=>
   rcases aJ.mp h with e|h
   ·cases e;simp at hb
   ·exact KW h
theorem FW{cells:Y3}:∀{names:VB} {acc:Y3} {n:Str} {c:Addr},(n,c)∈Zpt acc->(n,c)∈acc∨((n,.free)∈names/\c=(cells.lookup n).getD 0)
 |[],_,_,_,h=>XQ
 |(m,k)::r,acc,n,c,h=>by
  unfold gI at h;split at h
  ·rename_i hk;have hk:k=.free :=by simpa using hk
   rcases FW h with h|⟨h1,h2⟩
   ·rcases aJ.mp h with e|h
    ·cases e;exact .inr ⟨hk▸aY,rfl⟩
    ·exact XQ
   ·exact .inr Zpa
  ·rcases FW h with h|⟨h1,h2⟩
   ·exact XQ
   ·exact .inr Zpa
theorem N1{cells:Y3}:∀{names:VB} {acc:Y3} {p:Zj4},p∈acc->p∈Zpt acc
 |[],_,_,h=>h
 |(m,k)::r,acc,p,h=>by
  unfold gI;split
  ·exact N1 (ZE h)
  ·exact N1 h
theorem N0{cells:Y3}:∀{names:VB} {acc:Y3} {n:Str},(n,.free)∈names->(n,(cells.lookup n).getD 0)∈Zpt acc
 |(m,k)::r,acc,n,h=>by
  unfold gI;rcases aJ.mp h with e|h
  ·cases e
   exact N1 aY
  ·split
   ·exact N0 h
   ·exact N0 h
theorem BI:∀{names:VB} {h:Heap} {acc:Y3} {x:Str} {c:Addr},(x,c)∈Zmb acc->
  (x,c)∈acc∨((x,.cell)∈names/\h.objs.size<=c/\afX (pushCells h names) c none)
 |[],_,_,_,_,h=>XQ
 |(n,k)::r,h,acc,x,c,hm=>by
  unfold cellsFrom at hm;unfold pushCells;split at hm
  ·rename_i hk;rw[af hk];have hk:k=.cell :=by simpa using hk
   rw[←gb h {cls:=.type "cell",data:=.cell none}]at hm;rcases BI hm with hm|⟨h1,h2,h3⟩
   ·rcases aJ.mp hm with e|hm
    ·cases e
     exact .inr ⟨hk▸aY,ZA,_,Kc r _ _ _ Zdb,rfl⟩
    ·exact .inl hm
   ·rw[gb]at h2;exact .inr ⟨ZE h1,OW h2,h3⟩
  ·rename_i hk;rw[ae hk];rcases BI hm with hm|⟨h1,h2,h3⟩
   ·exact .inl hm
   ·exact .inr ⟨ZE h1,h2,h3⟩
theorem FZ:∀{names:VB} {n:Nat} {acc:Y3} {p:Zj4},p∈acc->p∈cellsFrom n names acc
 |[],_,_,_,h=>h
 |(m,k)::r,n,acc,p,h=>by
  unfold cellsFrom;split
  ·exact FZ (ZE h)
  ·exact FZ h
theorem N5:∀{names:VB} {n:Nat} {acc:Y3} {x:Str},(x,.cell)∈names->∃c,(x,c)∈cellsFrom n names acc
 |(m,k)::r,n,acc,x,h=>by
  unfold cellsFrom;rcases aJ.mp h with e|h
  ·cases e
   exact⟨n,FZ aY⟩
  ·split
   ·exact N5 h
   ·exact N5 h
theorem N4:∀{names:VB} {h:Heap} {acc:Y3} {x y:Str} {c:Addr},(∀p∈acc,p.2<h.objs.size)->(∀x y c,(x,c)∈acc->(y,c)∈acc->x=y)->
  (x,c)∈Zmb acc->(y,c)∈Zmb acc->x=y
 |[],_,_,_,_,_,_,hi,h1,h2=>hi _ _ _ h1 h2
 |(n,k)::r,h,acc,x,y,c,hl,hi,h1,h2=>by
  unfold cellsFrom at h1 h2;split at h1
  ·rename_i hk;rw[af hk]at h2;rw[←gb h {cls:=.type "cell",data:=.cell none}]at h1 h2;refine N4 (h:=h.push _) Zp7 (λx y c a b=>?_) h1 h2
   ·rw[gb];rcases aJ.mp hp with rfl|hp
    ·exact Cf _
    ·exact Cg (hl p hp)
   ·rcases aJ.mp a with e|a<;>rcases aJ.mp b with e'|b
    ·cases e;cases e';rfl
    ·cases e;exact absurd (hl _ b) Vu
    ·cases e';exact absurd (hl _ a) Vu
    ·exact hi _ _ _ a b
  ·rename_i hk;rw[ae hk]at h2;exact N4 hl hi h1 h2
theorem akM{M:Model}{A:Around}{E:Zt}{s:Shared}{scope:Scope}{globals:Addr}{closure:Y3}{qual:Str}{func:Ws}{code:Value}{around:Env}{builtins:Addr}{Q:Env->Shared->Prop}
  (h:Q (newEnv scope s.heap.objs.size globals (Zmo closure) qual func code (some around) builtins)
   {s with heap:=pushCells (s.heap.push {cls:=.type "dict",data:=.dict #[]}) scope.names}):
  wpAny M A (newFunctionEnv scope globals closure [] qual func code (some around) builtins) Q E s:=by
 simp only[newFunctionEnv,Option.isSome_some,iD];refine aj (wpAny_alloc ?_);refine aj (wpAny_layCells _ (λn k c=>rfl) scope.names closure _ _ ?_);rw[show({s with heap:=s.heap.push {cls:=.type "dict",data:=.dict #[]}}:Shared).heap.objs.size =s.heap.objs.size+1 from gb ..];rw[O_];exact aj Zqq
theorem K2{sc:Scope}:∀{names:VB} {x:Str} {k:NameKind},
  (names.map λ(n,k)=>if(k==NameKind.free&&sc.kind==.function &&sc.names.lookup n==some .cell)then(n,NameKind.cell)else(n,k)).lookup x=some k->
  ∃k',names.lookup x=some k'/\(k=k'∨(k'=.free /\k=.cell))
 |[],_,_,h=>by simp at h
 |(n,k₀)::r,x,k,h=>by
  have ih:=@K2 sc r x k;have h':List.lookup x ((if(k₀==NameKind.free&&sc.kind==.function &&sc.names.lookup n==some .cell)=true then(n,NameKind.cell)else(n,k₀))::(r.map _))=some k:=h;cases hx:x==n with
  |true=>
   ext bU
   ·rw[af hc]at h';ext aH;cases h'
    simp only[aP,oO]at hc;exact⟨k₀,rfl,.inr ⟨hc.1.1,rfl⟩⟩
   ·rw[ae hc]at h';ext aH;cases h'
    exact⟨_,rfl,.inl rfl⟩
  |false=>
   ext bU
   ·rw[af hc]at h';ext aH;exact ih h'
   ·rw[ae hc]at h';ext aH;exact ih h'
structure cB(N:Zc)(sc scope:Scope)(own:Zau):Prop where
 kind:scope.kind=.function
 uniq:∀y∈scope.names,scope.names.lookup y.1=some y.2
 ix:∀p∈own,N[p.2]? =some p.1
 free:∀y∈scope.names,y.2=.free ->sc.names.lookup y.1=some .cell ∨sc.names.lookup y.1=some .free
 own:∀y∈scope.names,y.2=.local ∨y.2=.cell ->y.1∈own.map Zg∨y.1∉N
def wipe(σ:St):Za->St
 |[]=>σ
 |v::vs=>(XX vs).set v none
theorem HN(σ:St):∀vs:List Nat,(XX vs).length =σ.length
 |[]=>rfl
 |v::vs=>by unfold wipe;rw[afu,HN σ vs]
theorem HM{σ:St}{i:Nat}{x:V}:∀{vs:Za},(XX vs)[i]? =some (some x)->σ[i]? =some (some x)/\i∉vs
 |[],h=>⟨h,Zh⟩
 |v::vs,h=>by
  unfold wipe at h;by_cases hi:v=i
  ·subst hi;by_cases hv:v<(XX vs).length
   ·rw[Hb hv]at h;cases h
   ·rw[Cr (by simpa using hv)]at h;cases h
  ·rw[Cq hi]at h;obtain⟨h1,h2⟩:=HM h;exact⟨h1,by simp only[aJ,not_or];exact⟨λe=>hi e.symm,h2⟩⟩
abbrev Cx.gu(X:Cx)(s:Shared)(H:Hp)(scope:Scope)(ei:Env)(fp:Zy):Cx:={X with gM:=s,wz:=H,env:=ei,outer:=X.stack,ex:=fp,fn:=λx=>scope.names.lookup x==some .cell,pn:=[],xe:=λ_ _=>False}
section
variable {X:Cx}{pins:Zv}{σ:St}{H:Hp}{s:Shared}
theorem arz{scope:Scope}{own:Zau}{fp:Zy}(I:Zf)(ok:ZeJ)(hN:X.N.Nodup)(oE:∀b∈fp,Zef/\b<s.heap.objs.size):
  Inv (X.gu s H scope (Zq6 X.env) fp) [] (XX ZfA) H {s with heap:=pushCells (s.heap.push {cls:=.type "dict",data:=.dict #[]}) scope.names}:=by
 have so:∀y∈scope.names,y.2=.free ->∃c,X.env.cells.lookup y.1=some c:=λy hy e=>by
  rcases ok.free y hy e with k|k
  ·exact Zj6 Zd3
  ·exact Zj6 (.inr k)
 generalize Be:Zq6 X.env=ei;have kp:∀b o,s.heap.get? b=some o->(ZrV scope.names).get? b=some o:=λb o e=>Kc _ _ _ _ XY;have hL:ei.locals=s.heap.objs.size:=by rw[←Be];rfl
 have kI:ei.cells=Zmo ZlN:=by rw[←Be];rfl
 have xU:ei.scope=ahS scope X.env.scope:=by rw[←Be];rfl
 rw[←gb s.heap {cls:=Zax,data:=.dict #[]}]at kI;have cm:∀{y c},(y,c)∈gI X.env.cells scope.names []->X.env.cells.lookup y=some c/\c<s.heap.objs.size:=λ{y c} hm=>by
  rcases FW hm with hm|⟨h1,rfl⟩
  ·cases hm
  ·obtain⟨c,hc⟩:=so _ h1 rfl;rw[hc];obtain⟨w,z⟩:=I.cell _ _ hc;exact⟨rfl,z.lt⟩
 have mem:∀{y c},ei.cells.lookup y=some c->(X.env.cells.lookup y=some c/\c<s.heap.objs.size)∨(s.heap.objs.size+1<=c/\afX (ZrV scope.names) c none):=λ{y c} e=>by
  rw[kI]at e;rcases BI (kP e)with hm|⟨_,h2,h3⟩
  ·exact .inl (cm hm)
  ·rw[gb]at h2;exact .inr ⟨h2,h3⟩
 have look:∀{y},scope.names.lookup y=some .free ->∃c,ei.cells.lookup y=some c/\X.env.cells.lookup y=some c:=λ{y} hl=>by
  have hy:(y,NameKind.free)∈scope.names:=kP hl;obtain⟨c',e'⟩:=KW (FZ (names:=scope.names) (n:=(s.heap.push {cls:=Zax,data:=.dict #[]}).objs.size) (N0 (cells:=X.env.cells) (acc:=[]) hy));rw[←kI]at e';refine⟨c',e',?_⟩;rw[kI]at e';rcases BI (kP e')with hm|⟨h1,_,_⟩
  ·exact(cm hm).1
  ·have:=ok.uniq _ h1;rw[hl]at this;cases this
 have okB:(X.gu s H scope ei fp).Ok :=by
  refine⟨I.ok.mod,by show ei.scope.kind=_;rw[xU];exact ok.kind,by show ei.globals=_;rw[←Be];exact I.ok.glob,by show ei.builtins=_;rw[←Be];exact I.ok.blt,by show s.heap.objs.size<=ei.locals;rw[hL];exact ZA,
   λy z c e1 e2=>?_,λy hy=>?_,λy c z e=>?_,I.ok.hd,I.ok.frames,.inl rfl,λb hb=>⟨?_,λy c e z=>?_⟩,I.bs,cq I.ok.oN I.sz,λb o e hb=>?_,λb hb z=>?_,I.stack,I.Qv⟩
  ·have e1:ei.cells.lookup y=some c:=e1;have e2:ei.cells.lookup z=some c:=e2;rw[kI]at e1 e2;refine N4 Zp7 (λy z c a b=>I.ok.inj y z c (cm a).1 (cm b).1) (kP e1) (kP e2);rw[gb];exact Cg (cm (y:=p.1) (c:=p.2) hp).2
  ·show∃c,ei.cells.lookup y=some c;have key:∀k,ei.kindOf y=some k->(k=.cell ∨k=.free)->∃c,ei.cells.lookup y=some c:=λk hk oB=>by
    unfold Env.kindOf at hk;rw[xU]at hk;obtain⟨k',e,r⟩:=K2 hk;have:k'=.cell ∨k'=.free :=by
     rcases r with rfl|⟨rfl,_⟩
     ·exact oB
     ·exact .inr rfl
    rcases this with rfl|rfl
    ·obtain⟨c,hm⟩:=N5 (n:=(s.heap.push {cls:=Zax,data:=.dict #[]}).objs.size) (acc:=gI X.env.cells scope.names []) (kP e);obtain⟨c',e'⟩:=KW hm;exact⟨c',by rw[kI];exact e'⟩
    ·obtain⟨c,h1,_⟩:=look e;exact⟨c,h1⟩
   rcases hy with hy|hy
   ·exact key _ hy Xd
   ·exact key _ hy Zdy
  ·have z:(scope.names.lookup y==some NameKind.cell)=true:=z;have z:scope.names.lookup y=some .cell :=by simpa using z
   ext ao;rw[kI]at e;rcases BI (kP e)with hm|⟨_,h2,_⟩
   ·rcases FW hm with hm|⟨h1,_⟩
    ·cases hm
    ·have q:=ok.uniq _ h1;rw[z]at q;cases q
   ·rw[gb]at h2;exact OW h2
  ·show b≠ei.locals;rw[hL];exact eB (oE b hb).2
  ·ext ao;rcases mem e with⟨h1,_⟩|⟨h1,_⟩
   ·exact(oE b hb).1.2.2.2.2.1 y c h1 z
   ·have h2:s.heap.objs.size+1<=b:=by rw[←z];exact h1
    exact absurd (hX (oE b hb).2 (OW h2)) Vu
  ·rcases(oE b hb).1.2.2.2.1 with z|z
   ·exact ZoP z
   ·exact absurd (hX YZ (Zka z)) Vu
  ·rcases aJ.mp (I.Ii b z)with z|z
   ·exact(oE b hb).1.2.1 z
   ·exact(oE b hb).1.2.2.1 z
 refine⟨okB,rfl,I.bare,Un.kept kp,⟨λ_=>none,?_,λi y av e1 e2 e3=>?_⟩,λy c e=>?_,?_,λy c e=>?_,λp hp=>?_,I.aC.kept kp,by rw[HN];exact I.len⟩
 ·show Heap.Ns _ ei.locals _;rw[hL];exact Heap.Ns.keeps (Heap.Ns.new ..) λb o e=>Kc _ _ _ _ e
 ·obtain⟨e2,aK⟩:=HM e2;have jC:scope.names.lookup y=some .free /\(ei.kindOf y=some .cell ∨ei.kindOf y=some .free):=by
   have key:∀k,ei.scope.names.lookup y=some k->k=.local ∨k=.cell ∨k=.free ->scope.names.lookup y=some .free /\(ei.kindOf y=some .cell ∨ei.kindOf y=some .free):=λk hk oB=>by
    have nq:=hk;rw[xU]at hk;obtain⟨k',e,r⟩:=K2 hk;have no:¬(k'=.local ∨k'=.cell):=λhh=>by
     rcases ok.own _ (kP e) hh with e'|e'
     ·obtain⟨p,hp,hpy⟩:=aN.mp e';have e3:=ok.ix p hp;have:p.1=y:=hpy;rw[this]at e3;exact aK (aN.mpr ⟨p,hp,Kw hN e3 e1⟩)
     ·exact e' (bI e1)
    rcases r with rfl|⟨rfl,rfl⟩
    ·rcases oB with rfl|rfl|rfl
     ·exact absurd Xd no
     ·exact absurd Zdy no
     ·exact⟨e,.inr nq⟩
    ·exact⟨e,.inl nq⟩
   have e3:yW ei.scope y:=e3;rcases e3 with e3|e3|e3
   ·exact key _ e3 Xd
   ·exact key _ e3 (.inr Xd)
   ·exact key _ e3 (.inr Zdy)
  ext az;have amm:Zfx y:=(ok.free _ (kP jC.1) rfl).elim (λk=>.inr Zd3) (λk=>.inr (.inr k));obtain⟨w,r,q⟩:=hl i y av e1 e2 amm;refine⟨w,r,.inr ⟨jC.2,?_⟩⟩;obtain⟨c,h1,h2⟩:=look jC.1;rcases q with⟨k,_⟩|⟨_,c',e',z⟩
  ·have k:X.env.scope.names.lookup y=some .local :=k;rcases ok.free _ (kP jC.1) rfl with k'|k'<;>rw[show X.env.scope.names.lookup y=_ from k']at k<;>cases k
  ·rw[h2]at e';cases e';exact⟨c,h1,z.keeps kp⟩
 ·ext ao;rcases mem e with⟨h1,_⟩|⟨_,z⟩
  ·obtain⟨w,z⟩:=I.cell y c h1;exact⟨w,z.keeps kp⟩
  ·exact⟨_,z⟩
 ·show H ei.locals=none;rw[hL];exact X4
 ·ext ao;rcases mem e with⟨h1,_⟩|⟨h1,_⟩
  ·exact I.lF y c h1
  ·exact I.aC.fresh (OW h1)
 ·exact ZrL
theorem arZ{E:Zt}{D:Addr}{xs:Ze}{y:V}{v:Value}{Q:Zt}(I:Zf)(hD:H D=some Yw)(hz:xs.length<sizeLine)(r:RelV y v)
  (h:∀s',ZQ (ZH D (.lst (xs++[y]))) s'->Q .none s'):Yt (call (.builtin "list.append") [.ref D,v]) Q E s:=by
 obtain⟨br,its,n,ri,e⟩:=I.aC D _ hD;have hl:=ri.length;refine append_at (hsz:=by rw[dR];omega) e λh' sb kD=>?_;refine h {s with heap:=h'} (I.write (t':=s.toks) (by rw[hD];trivial) Xd (λb u hb q=>(sb.2 b hb).trans q) ⟨_,kD⟩ ⟨by rw[bS];exact hz,its++[v],n+1,ri.append (.cons r .nil),?_⟩);rw[kD];simp
def zg(X:Cx)(ifs:Ya)(t:TT):Prop:=
 ∀(pins:Zv) (s:Shared) (σ:St) (H:Hp) (Q:Zfh),Zf->Zb8->
  wpAny Yd X.A (forIn ifs true λc r=>if r=true then do let ok←isTrue c X.env (eval c X.env);pure Zyk else ZwC) ZiJ X.xe s
def tu:TT:=λ_ H Q=>Q true H
theorem fU:zg X [] tu:=λ_ _ _ H _ I h=>wpAny_tests_nil ⟨H,I,h⟩
theorem iX{c:Expr}{t:TT}(h:PT X c t):zg X [c] t:=λpins s σ H Q I hw=>wpAny_tests_one (Zbw H Q I hw)
end
theorem wM{α:Type}{t:Sem α}{Q Q':ZnU}{M:Model}{A:Around}{E:Zt}{s:Shared}(h:Vl t Q Zfb s)(hQ:Zyb):Vl t Q' E s:=gL h hQ λ_ _ z=>ZjC
theorem aqD{prog:Program}{w:World}{A:Around}{R:Zh3}{s:Shared}{elt target iter:Expr}{ifs:Ya}{scope:Scope}{pos:Pos}{it acc:Value}{env:Env}(I:Nat->Shared->Prop)
  (turn:∀n s,I n s->YC (pyNext it) (λr s₁=>match r with
   |none=>R (.ok .next) s₁
   |some v=>YC (letOwnedTupleGo target it v) (λ_ Qo=>YC (assign target env v) (λ_ s₂=>
     wpAny Y5 A (forIn ifs true λc r=>if r=true then do let ok←isTrue c env (eval c env);pure Zyk else ZwC) (λok s₃=>
      if ok=true then YC (eval elt env) (λx s₄=>
       wpAny (model prog w) A (call (.builtin "list.append") [acc,x]) (λ_ s₅=>∃m,m<n/\I m s₅) (notedBy (model prog w) A env λe s'=>R (.error e) s') s₄) (notedBy (model prog w) A env λe s'=>R (.error e) s') s₃
      else∃m,m<n/\I m s₃) (notedBy (model prog w) A env λe s'=>R (.error e) s') s₂) (notedBy (model prog w) A env λe s'=>R (.error e) s') Qo) (notedBy (model prog w) A env λe s'=>R (.error e) s') s₁) (notedBy (model prog w) A env λe s'=>R (.error e) s') s)
  (n:Nat) (h:I n s):
  codeAny Y5 A (.compLoop ZrO 0 it acc env) R s:=by
 refine codeAny_loop rfl I (λn s hI=>?_) n h;show wpAny _ A ((compTurn ZrO 0 it acc env).onRaise (λx=>do noteFrame x env;theTreesLotGoes x)) _ _ s;refine wpAny_noted ?_;rw[compTurn_list];refine aj (Cy (aj (gL (turn n s hI) (λr s₁ h₁=>?_) λ_ _ h'=>h')));cases r with
 |none=>exact aL h₁
 |some v=>
  refine aj (gL h₁ (λ_ Qo h₁'=>?_) λ_ _ h'=>h');refine aj (gL h₁' (λ_ s₂ h₂=>aj (gL h₂ (λok s₃ h₃=>?_) λ_ _ h'=>h')) λ_ _ h'=>h');cases ok with
  |false=>exact aL ⟨rfl,h₃⟩
  |true=>
   exact aj (aj (gL h₃ (λx s₄ h₄=>aj (gL h₄ (λ_ s₅ h₅=>aL (aL ⟨rfl,h₅⟩)) λ_ _ h'=>h')) λ_ _ h'=>h'))
section
variable {X:Cx}
def wR(wi:TI)(g:TG)(tt:TT)(te:TE)(vs:Za):TE:=fun σ H Q=>wi σ H λJ H1=>∀D,H1 D=none->∃W:Nat->Nat->Hp->Prop,(∃m,Zod)/\∀i m H,W i m H->
 (ZdQ H/\Q Vh H)∨(U2 H/\∃Nx:Hp->Prop,(∀H',Nx H'->∃m',m'<m/\ZgZ H')/\∀x H',Zaz->ZjI H' fun σ2 H2=>Zg4 vs=XX vs/\tt σ2 H2 λb H3=>
  if b=true then te σ2 H3 λy H4=>∃acc,H4 D=some (.lst acc)/\acc.length<sizeLine/\Nx (upd H4 D (.lst (acc++[y])))else Nx H3)
theorem abC{pins:Zv}{s:Shared}{σ:St}{H:Hp}{Q:VK}{elt tg iter:Expr}{ifs:Ya}{scope:Scope}{own:Zau}{pos pos':Pos}{wi:TI}{g:TG}{tt:TT}{te:TE}{use:Option (Value->Sem Unit)}{Qf:Zt}
  (hc:Xz) (hN:X.N.Nodup) (I:Zf) (hi:Zfl) (ok:ZeJ)
  (hg:Zhe) (ht:Zhd)
  (he:Zhc) (hs:∀x,ZeK x=pure x)
  (h:ZeI σ H Q)
  (hRR:∀D C s' m H',VS->ZdS->s'.heap.Ns C m->Zc3 H' C->Zrv C (.ok .next) s'):
  wpAny Yd X.A (ZuW pos' (newList []) false ZnS use) Qf X.xe s:=by
 have so:∀y∈scope.names,y.2=.free ->∃c,X.env.cells.lookup y.1=some c:=λy hy e=>by
  rcases ok.free y hy e with k|k
  ·exact Zj6 Zd3
  ·exact Zj6 (.inr k)
 refine wpAny_comprehension_free (use:=use) rfl hs (aqL so) ok.kind (λy hy e=>by rw[ok.uniq y hy,e])
  (aM ZmJ λxv s1 hx=>aM hx λLd s2 h2=>?_)
 obtain⟨it,fp,tn,J,H2,e,I2,T,CV,f2,q⟩:=h2;subst e;refine wJ (akM ?_) (by show 0<=sizeLine;decide);generalize hD:s2.heap.objs.size=D;have hDn:H2 D=none:=I2.aC.fresh (OX hD);obtain⟨W,⟨m0,w0⟩,turn⟩:=q D hDn;generalize hs3:({s2 with heap:=s2.heap.push {cls:=.type "list",data:=.seq ([]:List Value).toArray}}:Shared)=s3;have I3:ZQ ZfW s3:=by rw[←hs3];refine I2.laid (t':=s2.toks) (λb o e=>XY) (OX hD) ⟨ZI,[],0,.nil,?_⟩;rw[←hD];exact dj _ rfl
 have h3:s3.heap=s2.heap.push {cls:=Yg,data:=.seq ([]:List Value).toArray}:=by rw[←hs3]
 have sz:∀b∈fp,b<s2.heap.objs.size:=λb hb=>by obtain⟨o,e,_⟩:=ZgF CV b hb;exact YZ
 have f3:∀b∈fp,Zc3 ZfW b/\b<s3.heap.objs.size:=λb hb=>by have bG:=sz b hb;refine⟨⟨?_,(f2 b hb).2⟩,by rw[h3,gb];exact Cg bG⟩;rw[ax (by rw[←hD];exact eB bG)];exact(f2 b hb).1
 have CU:tn 0 s3.heap:=ZjD CV λb _ o e=>by rw[h3];exact XY
 have I4:=arz I3 ok hN f3;have pg:=hg s3 ZfW s3.heap.objs.size Zha fp;have pt:=ht s3 ZfW s3.heap.objs.size Zha fp;have pe:=he s3 ZfW s3.heap.objs.size Zha fp;show codeAny _ _ (.compStart Zcw 0 Wq Vh (Ztq X.env)) Zv4 {s3 with heap:=pushCells (s3.heap.push {cls:=.type "dict",data:=.dict #[]}) scope.names};have nfp:∀b∈fp,(YM D Yh) b=none:=λb hb=>(f3 b hb).1.1;generalize gG:Ztq X.env=ce at I4 pg pt pe⊢;have cL:ce.locals=s3.heap.objs.size:=by subst gG;rfl
 generalize vv:YM D Yh=H3 at I3 I4 pg pt pe w0 nfp f3;generalize hs4:({s3 with heap:=pushCells (s3.heap.push {cls:=.type "dict",data:=.dict #[]}) scope.names}:Shared)=s4 at I4⊢;have Qy:tn 0 s4.heap:=ZjD CU λb _ o e=>by rw[←hs4];exact Kc _ _ _ _ XY
 have t9:∀{σ':St} {H':Hp} {s':Shared},Inv Zaf [] σ' H' s'->(∀b∈fp,H' b=none)->∀b∈fp,mG Zaf [] H' b:=λ{σ' H' s'} I' hn b hb=>
  ⟨hn b hb,(I'.ok.FO b hb).1,I'.ok.Bw b hb,.inl hb,λx c e=>(I'.ok.FO b hb).2 x c e,λp hp=>ZrL⟩
 have loop:codeAny Yd X.A (.compLoop Zcw 0 Wq Vh ce) Zv4 s4:=by
  refine aqD (λn s'=>∃i H',Inv Zaf [] (XX ZfA) H' s'/\ZqM/\(∀b∈fp,H' b=none)/\W i n H') ?_ m0 ⟨0,H3,I4,Qy,nfp,w0⟩;rintro n s5 ⟨i,H5,I5,st5,n5,w5⟩;rcases turn i n H5 w5 with⟨stop,qq⟩|⟨go,Nx,hNx,step⟩
  ·have td:=T.done Zaf rfl rfl rfl hc i [] s5 _ H5 Zfb I5 (t9 I5 n5) st5 stop;refine wM td λr s6 ⟨hr,I6⟩=>?_;subst hr;have I7:ZQ H5 s6:=I3.aru (ch:=fp) I6.os I6.base I6.aC I6.bare λb hb=>⟨(f3 b hb).1.2.2.2.1,(f3 b hb).1.2.1,(f3 b hb).1.2.2.2.2.1,(f3 b hb).1.2.2.2.2.2⟩;have nC:H5 s3.heap.objs.size=none:=by have z:H5 ce.locals=none:=I6.free;rw[cL]at z;exact z
   obtain⟨m,hn,_⟩:=I6.loc;have hn:s6.heap.Ns ce.locals m:=hn;rw[cL]at hn;exact hRR D s3.heap.objs.size s6 m H5 I7 qq hn (I3.qg ZA nC)
  ·have ti:=T.item Zaf rfl rfl rfl hc i [] s5 _ H5 Zfb I5 (t9 I5 n5) st5 go;refine wM ti λr s6 ⟨u,hr,h6⟩=>?_;subst hr;refine wM h6 λ_ s7 ⟨x,H7,I7,r7,y7,st7,n7⟩=>?_;have I7':=I7.pinned (t9 I7 n7) (ZgF st7);refine wM (pg _ s7 _ H7 x u _ I7' r7 (step x H7 y7)) λ_ s8 ⟨σ8,H8,I8,hw8,q8⟩=>?_;refine wM (pt _ s8 σ8 H8 _ I8 q8) λb s9 ⟨H9,I9,q9⟩=>?_;have fin:∀{s':Shared} {H':Hp},Inv Zaf ([]++Ai fp s7.heap) σ8 H' s'->Nx H'->∃m,m<n/\∃i H',Inv Zaf [] (XX ZfA) H' s'/\ZqM/\(∀b∈fp,H' b=none)/\W i m H':=λ{s' H'} I' nx=>by
    obtain⟨m',hm,w'⟩:=hNx H' nx;have aan:∀b∈fp,∀o,s7.heap.get? b=some o->s'.heap.get? b=some o/\H' b=none:=λb hb o e=>
     let z:=I'.pin (b,o) ZmA
     ⟨z.1,z.2.1⟩
    have hl:(XX ZfA).length =σ8.length:=by rw[←hw8,HN]
    refine⟨m',hm,i+1,H',(I'.CH (pins:=[])).weak hl (λj v e=>?_),ZjD st7 λb hb o e=>(aan b hb o e).1,λb hb=>?_,w'⟩
    ·rw[←hw8]at e;exact(HM e).1
    ·obtain⟨o,e,_⟩:=ZgF st7 b hb;exact(aan b hb o e).2
   cases b with
   |false=>
    simp only[kf,i5]at q9⊢;exact fin I9 q9
   |true=>
    simp only[iD]at q9⊢;refine wM (pe _ s9 σ8 H9 _ I9 q9) λz ui ⟨yv,H10,I10,r10,acc,hD10,xP,nx⟩=>?_;exact arZ (X:=Zaf) I10 hD10 xP r10 λTw I11=>fin I11 nx
 exact codeAny_compStart_list loop (T.self X.A 0 _ _ _ Qy loop)
theorem dW{elt tg iter:Expr}{ifs:Ya}{scope:Scope}{own:Zau}{pos:Pos}{wi:TI}{g:TG}{tt:TT}{te:TE}(hc:Xz)(hN:X.N.Nodup)(hi:Zfl)(ok:ZeJ)
  (hg:Zhe) (ht:Zhd)
  (he:Zhc) (hs:∀x,ZeK x=pure x:=by intro _;rfl):
  PE X Zcw ZeI:=by
 ext f;rw[eval_ListComp];refine abC hc hN I hi ok hg ht he hs h λD C s' m H' I' q hn f=>⟨m,hn,λjH sb=>?_⟩;obtain⟨f0,f1,f2,f3,f4,f5⟩:=f;exact⟨Vh,H',I'.turned (t':=s'.toks) Zrp f0 f1 f3 f4 f5,rfl,q⟩
theorem ah7{i:Nat}{y:Str}{py:Pos}{elt tg iter:Expr}{ifs:Ya}{scope:Scope}{own:Zau}{pos CW:Pos}{wi:TI}{g:TG}{tt:TT}{te:TE}(hc:Xz)(hN:X.N.Nodup)(hy:X.N[i]? =some y)(jt:X.env.scope.names.lookup y=some .local)
  (hsw:swapsWith Zcw (some Zjq) CW.line X.env=pure true) (hi:Zfl) (ok:ZeJ)
  (hg:Zhe) (ht:Zhd)
  (he:Zhc) (hs:∀x,ZeK x=pure x:=by intro _;rfl):
  PS X Zui (mN ZeI Zcq):=by
 ext s;rw[exec_Assign_Name_used _ _ _ _ hsw];refine aj (Cy (aj ?_));show wpAny _ X.A (do let _←ZuW (firstIterPos [⟨tg,iter,ifs,0⟩] pos) (newList []) false ZnS (some (assign Zjq X.env))) _ _ s;have h:ZeI σ H (λx H1=>Zcq x σ H1 D.nx):=h;refine aj (aM (abC (Qf:=λ_ s'=>ZfP .next s') hc hN I hi ok hg ht he hs h λL C s' m H' I' q hn f=>?_) λ_ s' hq=>aL (aL hq));show YF (assign Zjq X.env (.ref L)) _ _ _;refine wpAny_assign_Name (Qu (v:=V.ref L) I' hN hy (.inl jt) rfl (λs2 I2 ⟨a,sb,ha⟩=>?_) (.inr jt));obtain⟨f0,f1,f2,f3,f4,f5⟩:=f;have haC:C≠a:=by
  rcases ha with z|z
  ·rw[z];exact f1
  ·exact λe=>f4 y a z e.symm
 refine⟨m,hn.sameBut sb haC,λh3 IQ=>?_⟩;exact⟨_,H',I2.turned (t':=s2.toks) (λb o hb e=>(IQ.2 b hb).trans e) f0 f1 f3 f4 f5,q⟩
theorem ag5{elt:Expr}{gs:List Comprehension}{scope:Scope}{pos py:Pos}{y:Str}{l:Nat}{env:Env}(hk:env.scope.kind=.function)(hy:env.scope.names.lookup y=some .local)(hl:(py.line==pos.line)=true)
  (ha:(scope.names.any λ(n,k)=>n==y&&(k==.local ||k==.cell))=false):swapsWith (.ListComp elt gs scope pos) (some Zjq) l env=pure true:=by
 have ky:env.kindOf y=some .local :=hy;have hb:env.blockKind=.function :=by unfold Env.blockKind;rw[hk];rfl
 unfold swapsWith;simp only[hb,ky,ha,Expr.pos,hl];rfl
end
def aef(N:Zc)(sc scope:Scope)(own:Zau):Bool:=
 (match scope.kind with | .function =>true|_=>false)&&(scope.names.all λy=>decide (scope.names.lookup y.1=some y.2))&&(own.all λp=>decide (N[p.2]? =some p.1))&&
  (scope.names.all λy=>match y.2 with
   | .free =>(match sc.names.lookup y.1 with |some .cell =>true|some .free =>true|_=>false)
   | .local =>decide (y.1∈own.map Zg)||decide (y.1∉N)
   | .cell =>decide (y.1∈own.map Zg)||decide (y.1∉N)
   |_=>true)
theorem cP{N:Zc}{sc scope:Scope}{own:Zau}(h:aef N sc scope own=true):cB N sc scope own:=by
 unfold aef at h;simp only[aP,dh,bX]at h;obtain⟨⟨⟨h1,h2⟩,h3⟩,h4⟩:=h;refine⟨?_,h2,h3,λy hy e=>?_,λy hy e=>?_⟩
 ·split at h1
  ·assumption
  ·cases h1
 ·have q:=h4 y hy;simp only[e]at q;split at q<;>first |exact .inl (by assumption)|exact .inr (by assumption)|cases q
 ·have q:=h4 y hy;rcases e with e|e<;>(simp only[e,h_,bX]at q;exact q)
end L2
namespace L2
open PySem PySem.Spec PyProof.Rows
section
variable {prog:Program}{w:World}{A:Around}{R:Zh3}{s:Shared}{elt t0 i0 t1 i1:Expr}{atY atX:Ya}{scope:Scope}{pos:Pos}{it acc:Value}{env:Env}
end
section
variable {X:Cx}
end
end L2
namespace L2
open PySem PySem.Spec PyProof.Rows
section
variable {κ:Type}[DecidableEq κ]
def eO(kvs:XN)(k:κ):ZM:=(kvs.find? λkv=>decide (kv.1=k)).map Z1
def putK(kvs:XN)(k:κ)(v:V):XN:=
 if(kvs.any λkv=>decide (kv.1=k))=true then kvs.map (λkv=>if kv.1=k then(kv.1,v)else kv)else kvs++[(k,v)]
theorem zE{p:κ×V}{r:XN}{k:κ}(e:p.1=k):eO (p::r) k=some p.2:=by simp[eO,oU,e]
theorem tp{p:κ×V}{r:XN}{k:κ}(e:¬p.1=k):eO (p::r) k=eO r k:=by simp[eO,oU,e]
theorem HR(k:κ):∀kvs:List (κ×V),(kvs.any λkv=>decide (kv.1=k))=(W4 k).isSome
 |[]=>rfl
 |p::r=>by
  rw[ka];ext Y
  ·simp only[zE e,bu e,Bool.true_or,Option.isSome_some]
  ·rw[tp e,aX e,Hq];exact HR k r
theorem K6(kvs:XN)(k:κ)(v:V):(Vm k v).length <=kvs.length+1:=by
 unfold putK;split
 ·rw[aq];omega
 ·rw[bS,bb,jM];omega
theorem ah3{kvs:XN}{k:κ}(v:V)(h:W4 k=none):Vm k v=kvs++[(k,v)]:=by unfold putK;rw[HR,h];exact ae Zk
theorem jL.Le{o:ZM}{u:Zad}(r:jL o u):o.isSome=u.isSome:=by
 cases o with
 |none=>cases u with
  |none=>rfl
  |some _=>exact(show False from r).elim
 |some _=>cases u with
  |none=>exact(show False from r).elim
  |some _=>rfl
theorem jL.getD{o:ZM}{u:Zad}{d:V}{d':Value}(r:jL o u)(rd:RelV d d'):RelV (o.getD d) (u.getD d'):=by
 cases o with
 |none=>cases u with
  |none=>exact rd
  |some _=>exact(show False from r).elim
 |some _=>cases u with
  |none=>exact(show False from r).elim
  |some _=>exact r
theorem KV.val{kvs:XN}{vs:Zap}(r:XO)(k:κ):jL (W4 k) (valueAt vs k):=by
 unfold KV at r
 induction r with
 |nil=>exact True.intro
 | @cons p q ps qs h t ih=>
  obtain⟨h1,h2⟩:=h;ext Y
  ·have e':q.1=k:=ZiM;have b:valueAt (q::qs) k=some q.2:=by simp[valueAt,oU,e']
   rw[zE e,b];exact h2
  ·have e':¬q.1=k:=λz=>Zja;have b:valueAt (q::qs) k=valueAt qs k:=by simp[valueAt,oU,e']
   rw[tp e,b];exact ih
theorem KV.any{kvs:XN}{vs:Zap}(r:XO)(k:κ):(kvs.any λkv=>decide (kv.1=k))=vs.any λkv=>decide (kv.1=k):=by
 unfold KV at r
 induction r with
 |nil=>rfl
 |cons h t ih=>rw[ka,ka,ih,h.1]
theorem KV.J0{kvs:XN}{vs:Zap}(r:XO)(k:κ){y:V}{u:Value}(ry:XB):
  KV Zr2 (vs.map λkv=>if kv.1=k then(kv.1,u)else kv):=by
 unfold KV at r⊢
 induction r with
 |nil=>exact .nil
 | @cons p q ps qs h t ih=>
  rw[cw,cw];refine ZgU ih;obtain⟨h1,h2⟩:=h;ext Y
  ·rw[af e,af ZiM];exact⟨h1,ry⟩
  ·rw[ae e,ae (λz=>Zja)];exact⟨h1,h2⟩
theorem KV.put{kvs:XN}{vs:Zap}(r:XO)(k:κ){y:V}{u:Value}(ry:XB):KV (Vm k y) (stored vs k u):=by
 unfold putK stored;rw[r.any k];by_cases e:(vs.any λkv=>decide (kv.1=k))=true
 ·rw[af e,af e];exact r.J0 k ry
 ·rw[ae e,ae e];exact qo r ⟨rfl,ry⟩
theorem KV.length{kvs:XN}{vs:Zap}(r:XO):kvs.length=vs.length:=y6 r
end
theorem uV{P:Program}{w:World}{k:Key}{u:Value}(r:RelV (kV k) u):(fV P w).is k u=true:=by
 cases k with
 |inl i=>obtain⟨t,e⟩:=ZtF;subst e;exact KP P w i t
 |inr x=>obtain⟨t,e⟩:=ZtG;subst e;exact ak3 P w x t
theorem ab1{P:Program}{w:World}:∀{ks:Zb5} {us:Zq},Vals ZqI us->ItemsAre ZbD ks us
 |[],_,r=>by rw[wj]at r;cases r;exact .nil
 |k::ks,_,r=>by
  rw[cw]at r;cases r with
  |cons h t=>exact .cons (uV h) (ab1 t)
abbrev KT(H:Hp):Vb->ZcB->Prop:=Paired λp q=>p.1=q.1/\H q.2.1=some ZxE/\RelV p.2 q.2.2
theorem KT.val{H:Hp}{kvs:Vb}{xs:ZcB}(r:Zdu)(k:Zb5):jL (W4 k) ((atKey xs k).map Z1):=by
 induction r with
 |nil=>exact True.intro
 | @cons p q ps qs h t ih=>
  obtain⟨h1,_,h2⟩:=h;ext Y
  ·have e':q.1=k:=ZiM;have b:atKey (q::qs) k=some q.2:=by simp[atKey,oU,e']
   rw[zE e,b];exact h2
  ·have e':¬q.1=k:=λz=>Zja;have b:atKey (q::qs) k=atKey qs k:=by simp[atKey,oU,e']
   rw[tp e,b];exact ih
theorem KT.J0{H:Hp}{kvs:Vb}{xs:ZcB}(r:Zdu)(k:Zb5){y:V}{u:Value}(ry:XB):
  KT H Zr2 (xs.map (putAt k u)):=by
 induction r with
 |nil=>exact .nil
 | @cons p q ps qs h t ih=>
  rw[cw,cw];refine ZgU ih;obtain⟨h1,h2,h3⟩:=h;unfold putAt;ext Y
  ·rw[af e,af ZiM];exact⟨h1,h2,ry⟩
  ·rw[ae e,ae (λz=>Zja)];exact⟨h1,h2,h3⟩
theorem KT.put{H:Hp}{kvs:Vb}{xs:ZcB}(r:Zdu)(k:Zb5){b:Addr}{y:V}{u:Value}(hb:H b=some Zfa)(ry:XB):
  KT H (Vm k y) (storedH xs k b u):=by
 have e:(kvs.any λkv=>decide (kv.1=k))=(atKey xs k).isSome :=by rw[HR,(r.val k).Le,Option.isSome_map]
 unfold putK storedH;rw[e];by_cases q:(atKey xs k).isSome =true
 ·rw[af q,af q];exact r.J0 k ry
 ·rw[ae q,ae q];exact qo r ⟨rfl,hb,ry⟩
theorem KT.keeps{H H':Hp}{kvs:Vb}{xs:ZcB}(r:Zdu)(ht:∀b ys,H b=some (.tup ys)->H' b=some (.tup ys)):KT H' kvs xs:=
 Paired.K1 r λ_ _ z=>Zvm
section
variable {P:Program}{w:World}{H:Hp}{h:Heap}{a:Addr}
theorem TQ{u:HO}(ok:Xq)(e:Za4 u):Vg u:=e.ok ok
theorem yP{kvs:Yb}(ok:Xq)(e:Za4 YA):kvs.length<=sizeLine/\(a==sysModules)=false/\∃vs,XO/\Zjc vs:=
 show Vg YA from TQ ok e
theorem adH{kvs:Yb}(ok:Xq)(e:Zqe):kvs.length<=sizeLine/\(a==sysModules)=false/\∃vs,XO/\Zjc vs:=yP ok Zb9
theorem AJ{ks:Zb5}(ok:Xq)(e:H a=some (.tup ZqI)):(tupleKind ZbD).is h ks a:=by obtain⟨_,its,r,o,h1,h2,n,h3⟩:=(show Vg (.tup ZqI)from ok a _ e);exact⟨o,its.toArray,n,h1,h2,h3,by simpa using ab1 r⟩
theorem yO{kvs:Vb}(ok:Xq)(e:Za4 ZaC):kvs.length<=sizeLine/\(a==sysModules)=false/\
  ∃xs,Zdu/\h.DictOfH ZoG a xs:=by
 obtain⟨z,y,xs,r,o,es,ep,h1,h2,h3,h4,h5⟩:=(show Vg ZaC from TQ ok e);refine⟨z,y,xs,r,o,es,ep,h1,h2,h3,h4,λx hx=>?_,h5⟩;have all:∀{l:Vb} {m:ZcB},KT H l m->∀x∈m,(tupleKind ZbD).is h x.1 x.2.1:=by
  intro l m q
  induction q with
  |nil=>intro x hx;exact nomatch hx
  | @cons p q ps qs hq t ih=>
   intro x hx;rcases aJ.mp hx with e|hx
   ·subst e;exact AJ ok (by rw[←hq.1];exact hq.2.1)
   ·exact ih x hx
 exact all r x hx
theorem aqf{kvs:Vb}(ok:Xq)(e:H a=some ZaC):kvs.length<=sizeLine/\(a==sysModules)=false/\
  ∃xs,Zdu/\h.DictOfH ZoG a xs:=yO ok Zb9
end
def bZ(H:Hp)(a:Addr)(y:V)(r:ZM):Prop:=
 (∃kvs k,Za4 YA/\y=kV k/\r=W4 k)∨∃kvs k b,Za4 ZaC/\y=.ref b/\H b=some Zfa/\r=W4 k
def qx(H:Hp)(a:Addr)(y v:V)(H':Hp):Prop:=
 (∃kvs k,H a=some YA/\y=kV k/\kvs.length<sizeLine/\H'=V7 (.dK (Vm k v)))∨
 ∃kvs k b,H a=some ZaC/\y=.ref b/\H b=some Zfa/\kvs.length<sizeLine/\H'=V7 (.dT (Vm k v))
theorem bZ.k{H:Hp}{a:Addr}{kvs:Yb}{k:Key}(e:Zqe):bZ H a (kV k) (W4 k):=.inl ⟨kvs,k,Zb9,rfl,rfl⟩
theorem qx.k{H:Hp}{a:Addr}{kvs:Yb}{k:Key}{v:V}(e:Zqe)(hl:kvs.length<sizeLine):qx H a (kV k) v (V7 (.dK (Vm k v))):=.inl ⟨kvs,k,e,rfl,hl,rfl⟩
section
variable {X:Cx}{pins:Zv}{σ:St}{H:Hp}{s:Shared}{a:Addr}{y v:V}{u r:Value}{o:ZM}{A:Around}{E:Zt}
theorem Inv.big(I:Zf):sysModules<s.heap.objs.size:=by have h:mainGlobals<s.heap.objs.size:=(I.mod.glob.keeps I.bk).lt;exact Nat.lt_trans Zk h
theorem aqo{Q:Zt}(hu:ZiX)(I:Zf)(g:bZ H a y VU)(ry:XB)(h:∀w' s',ZQ H s'->RelV v w'->Q w' s'):
  wpAny Yd A (getItem ZX u) Q E s:=by
 rcases g with⟨kvs,k,e,ey,l⟩|⟨kvs,k,b,e,ey,eb,l⟩
 ·ext a2;obtain⟨w',hw,kW⟩:=Zok (o:=valueAt vs k) (by rw[l];exact rel.val k);exact wpAny_getItem_of (uV ry) dd.mapOf hw (h w' _ YL kW)
 ·subst ey;ext aq
  ext a9;obtain⟨w',hw,kW⟩:=Zok (o:=(atKey xs k).map Z1) (by rw[l];exact rel.val k);obtain⟨p,hp,dP⟩:=Option.map_eq_some_iff.mp hw;refine wpAny_getItem_heap (HW hu) ZjA dd hp ?_;rw[dP];exact h w' _ YL kW
theorem aqn{Q:Zt}(hu:ZiX)(I:Zf)(g:bZ H a y o)(ry:XB)(h:∀s',ZQ H s'->Q (.bool o.isSome) s'):
  wpAny Yd A (compareOp .In u ZX) Q E s:=by
 rcases g with⟨kvs,k,e,ey,l⟩|⟨kvs,k,b,e,ey,eb,l⟩
 ·ext a2;refine wpAny_in_of (uV ry) hd dd.mapOf ?_;rw[←(rel.val k).Le,←l];exact h _ YL
 ·subst ey;ext aq
  ext a9;refine wpAny_in_heap (HW hu) ZjA hd dd ?_;have q:=(rel.val k).Le;rw[Option.isSome_map]at q;rw[←q,←l];exact h _ YL
theorem NQ{h':Heap}{t':Nat}{ob:HO}(I:Zf)(mu:qu (H a))(hs:Zh7 h')(he:∃q,h'.get? a=some q)(new:WM (V7 ob) h' a ob):
  Inv X pins σ (V7 ob) {s with heap:=h',toks:=t'}:=
 I.write (x:=a) (e:=a) mu Xd (λb q hb z=>(Za9 hb).trans z) he new
theorem adI{P:Program}{w:World}{H':Hp}{h':Heap}{kvs:Yb}{vs:Zfc}(z:kvs.length<=sizeLine)(hd:(a==sysModules)=false)(rel:XO)(dd:h'.DictOf ZbD a vs):
  dJ P w H' h' a YA:=⟨z,hd,vs,rel,dd⟩
theorem aqm{H':Hp}{Q:Zaj}(hu:ZiX)(I:Zf)(g:qx H a y v H')(ry:XB)(rv:RelV v r)(h:∀s',VS->Q () s'):
  wpAny Yd A (setItem ZX u r) Q E s:=by
 rcases g with⟨kvs,k,e,ey,l,eH⟩|⟨kvs,k,b,e,ey,eb,l,eH⟩
 ·subst ey eH;obtain⟨z,hd,vs,rel,dd⟩:=adH I.aC e;have hz:vs.length<=sizeLine:=by rw[←rel.length];exact z
  have hl:(Vm k v).length <=sizeLine:=by have:=K6 kvs k v;omega
  refine wpAny_setItem_pairs (hsz:=hz) (uV ry) dd λh' vH hs=>h _ ?_;have he:∃q,h'.get? a=some q:=let⟨q,_,_,hq,_⟩:=vH;⟨q,hq⟩;exact Zty he (adI hl hd (rel.put k rv) vH)
 ·subst ey eH;ext aq
  obtain⟨z,hd,xs,rel,dd⟩:=aqf I.aC e;have hz:xs.length<=sizeLine:=by rw[←y6 rel];exact z
  have hl:(Vm k v).length <=sizeLine:=by have:=K6 kvs k v;omega
  refine wpAny_setItem_heap (hsz:=hz) (HW hu) ZjA dd λh' vH hs=>h _ ?_;obtain⟨q,es,ep,hq,h2,h3,h4,_,h5⟩:=vH;refine Zty ⟨q,hq⟩ ⟨hl,hd,_,(rel.put k eb rv).keeps λc ys ec=>?_,q,es,ep,hq,h2,h3,h4,h5⟩;rw[ax (ie ec e (λz=>nomatch z))];exact ec
end
section
variable {X:Cx}{pins:Zv}{σ:St}{H:Hp}{s:Shared}{a:Addr}{kvs:Yb}{k:Key}{u:Value}{A:Around}{E:Zt}
end
def OS(i:Expr):Prop:=∀ov iv,subscripted i false ov iv=operate [ov,iv] (getItem ov iv)
theorem Qs{prog:Program}{w:World}{A:Around}{E:Zt}{s:Shared}{env:Env}{value slice:Expr}{pos:Pos}{T id:String}{Q:Zt}
  (hl:typeLookup Zkk "__getitem__"=pure (some Zc1)) (hs:OS slice)
  (h:YC (eval value env) (λo s₁=>YC (eval slice env) (λi s₂=>s₂.TypeIs o T/\YC (getItem o i) Q E s₂) E s₁) E s):
  wpAny Y5 A (eval (.Subscript value slice pos) env) Q E s:=by
 refine Subscript_ (gL h (λo s₁ h₁=>gL h₁ (λi s₂ h₂=>?_) λ_ _ x=>x) λ_ _ x=>x);obtain⟨hT,h₂⟩:=h₂;unfold subscriptTail;ext q;rw[getitemInPython_of_ne hT.not_modules];refine aj (PU hT hl ?_);have fin:YC (subscripted slice false o i) (λr s₃=>YC (letTemporaryGo value o r>>= λ_=>pure r) Q E s₃) E s₂:=by rw[hs o i];exact wpAny_operating (gL h₂ (λr s₃ h₃=>aj (wpAny_letTemporaryGo (aL h₃))) λ_ _ x=>x)
 first
  |exact aL (aj fin)
  |exact aj (aL (aj fin))
  |exact aj fin
theorem aqj{X:Cx}{pins:Zv}{σ:St}{H:Hp}{s:Shared}{a:Addr}{y:V}{o:ZM}(I:Zf)(g:bZ H a y o):s.TypeIs ZX "dict":=by
 rcases g with⟨kvs,k,e,_,_⟩|⟨kvs,k,b,e,_,_,_⟩
 ·obtain⟨_,_,vs,_,dd⟩:=yP I.aC e;exact dd.typeIs
 ·obtain⟨_,_,xs,_,dd⟩:=yO I.aC e;exact dd.typeIs
def tT(td ty:TE):TE:=fun σ H Q=>td σ H λx H1=>ty σ H1 λy H2=>∃a v,x=.ref a/\bZ H2 a y VU/\Q v H2
def tR(ty td:TE):TE:=fun σ H Q=>ty σ H λy H1=>td σ H1 λx H2=>∃a o,x=.ref a/\bZ H2 a y o/\Q (.bl o.isSome) H2
def wV(ty td:TE):TE:=fun σ H Q=>ty σ H λy H1=>td σ H1 λx H2=>∃a o,x=.ref a/\bZ H2 a y o/\Q (.bl (!o.isSome)) H2
def uf(td ty tv:TE):TS:=λD σ H=>tv σ H λv H1=>td σ H1 λx H2=>ty σ H2 λy H3=>∃a H4,x=.ref a/\qx H3 a y v H4/\W3 H4
section
variable {X:Cx}{o i e value:Expr}{pos pos' fQ:Pos}{td ty tv:TE}
theorem jl(hu:ZiA)(ho:Zu o td)(hi:Zu i ty)(hs:OS i):Zu (Zar pos) (tT td ty):=by intro pins s σ H Q I h;refine Qs asi.lookup hs (aM ZcC λu s1 ⟨x,H1,I1,rx,q1⟩=>aM ZhK λiv s2 ⟨y,H2,I2,ry,a,v,ex,g,q2⟩=>?_);subst ex;obtain rfl:u=Value.ref a:=rx;exact⟨aqj I2 g,aqo hu I2 g ry λw' s3 I3 kW=>⟨v,H2,I3,kW,q2⟩⟩
theorem aaw(hu:ZiA)(hi:Zu i ty)(ho:Zu o td):PC X .In i o (tR ty td):=by intro pins s σ H Q I h;refine aM ZmJ λiv s1 ⟨y,H1,I1,ry,q1⟩=>aM (ZiR _ I1 q1) λu s2 ⟨x,H2,I2,rx,a,ov,ex,g,q2⟩=>?_;subst ex;obtain rfl:u=Value.ref a:=rx;exact aqn hu I2 g ry λs3 I3=>⟨.bl ov.isSome,H2,I3,rfl,q2⟩
theorem Ae(hu:ZiA)(ho:Zu o td)(hi:Zu i ty)(hv:ZjE)(hs:swapsWith value (some (Zar pos')) pos.line X.env=pure false):
  PS X (.Assign [Zar pos'] value pos) (uf td ty tv):=by
 ext s;refine wpAny_Assign_Subscript (aM ZwA λr s1 ⟨v,H1,I1,rv,q1⟩=>aM (ZiR _ I1 q1) λu s2 ⟨x,H2,I2,rx,q2⟩=>aM (hi pins s2 σ H2 _ I2 q2) λiv s3 ⟨y,H3,I3,ry,a,H4,ex,g,q3⟩=>?_) hs;subst ex;obtain rfl:u=Value.ref a:=rx;exact aqm hu I3 g ry rv λs4 I4=>⟨σ,H4,I4,q3⟩
end
theorem adJ{P:Program}{w:World}{H:Hp}(h:Heap)(hb:sysModules<h.objs.size):dJ P w H (h.push {cls:=Zax,data:=.dict #[]}) h.objs.size ZaR:=
 ⟨ZI,ip.mpr (qt (eB hb)),[],.nil,Heap.DictOf.new h⟩
def tQ:TE:=λ_ H Q=>∀p,H p=none->Q Z6 (Vz ZaR)
section
variable {X:Cx}{pos:Pos}
theorem D1:Zu (.Dict [] [] pos) tQ:=λpins s σ H Q I h=>
 wpAny_Dict_empty ⟨Yn,_,Zl4 (o:=.dK []) (t':=s.toks) ZnV ZA Zyt,rfl,h _ X4⟩
end
def ph:ZfD->St->Hp->(List (V×V)->Hp->Prop)->Prop
 |[],_,H,Q=>Q [] H
 |(tk,tv)::r,σ,H,Q=>tk σ H λx H1=>tv σ H1 λy H2=>ph r σ H2 λps H3=>Q ((x,y)::ps) H3
abbrev VV:List (V×V)->List (Value×Value)->Prop:=Paired λp q=>RelV p.1 q.1/\RelV p.2 q.2
def G1(X:Cx)(pos:Pos)(keys:List ZfK)(values:Ya)(o_:ZfD):Prop:=
 ∀(pins:Zv) (s:Shared) (σ:St) (H:Hp) (Q:List (V×V)->Hp->Prop),Zf->ph o_ σ H Q->
  wpAny Yd X.A (evalPairs (pairTrees keys values X.env pos)) (λvs s'=>∃ps H',VS/\VV ps vs/\Q ps H') X.xe s
theorem aaa{X:Cx}{pos:Pos}:G1 X pos [] [] []:=λpins s σ H Q I h=>pairTrees_nil_walk ⟨[],H,I,.nil,h⟩
theorem DW{X:Cx}{pos:Pos}{k v:Expr}{ks:List ZfK}{vs:Ya}{tk tv:TE}{o_:ZfD}(hk:Zu k tk)(hv:Zu v tv)(hr:G1 X pos ks vs o_):
  G1 X pos (some k::ks) (v::vs) ((tk,tv)::o_):=λpins s σ H Q I h=>
 pairTrees_cons_walk (aM (hk pins s σ H _ I h) λu s1 ⟨x,H1,I1,rx,q1⟩=>aM (hv pins s1 σ H1 _ I1 q1) λw2 s2 ⟨y,H2,I2,ry,q2⟩=>
  aM (hr pins s2 σ H2 _ I2 q2) λws s3 ⟨ps,H3,I3,rel,q3⟩=>⟨(x,y)::ps,H3,I3,.cons ⟨rx,ry⟩ rel,q3⟩)
def xE(kvs more:Yb):Yb:=more.foldl (λacc kv=>putK acc kv.1 kv.2) kvs
theorem KV.merge:∀{more:Yb} {rs:Zfc} {kvs:Yb} {vs:Zfc},KV more rs->XO->KV (xE kvs more) (merged vs rs):=by
 intro more rs kvs vs r;unfold KV at r
 induction r generalizing kvs vs with
 |nil=>intro q;exact q
 | @cons p q ps qs h t ih=>
  intro r0;have e:KV Zpi (stored vs q.1 q.2):=by have:=r0.put p.1 h.2;rw[←h.1];exact this
  exact ih e
theorem abw:∀(more kvs:Yb),(xE kvs more).length <=kvs.length+more.length
 |[],kvs=>by show kvs.length<=kvs.length+0;omega
 |p::r,kvs=>by have h1:=abw r Zpi;have h2:=K6 kvs p.1 p.2;show(xE Zpi r).length <=_;rw[bb];omega
theorem aeb{P:Program}{w:World}:∀{kvs:Yb} {ws:List (Value×Value)},VV (kvs.map λkv=>(kV kv.1,kv.2)) ws->∃rs,Carries ZbD ws rs/\KV kvs rs
 |[],_,r=>by rw[wj]at r;cases r;exact⟨[],True.intro,.nil⟩
 |p::kvs,_,r=>by
  rw[cw]at r;cases r with
  | @cons a b as bs h t=>
   obtain⟨rs,c,q⟩:=aeb (P:=P) (w:=w) t;obtain⟨b1,b2⟩:=b;exact⟨(p.1,b2)::rs,⟨uV h.1,rfl,c⟩,.cons ⟨rfl,h.2⟩ q⟩
def nT(o_:ZfD):TE:=fun σ H Q=>∀p,H p=none->ph o_ σ (Vz ZaR) λps H2=>H2 p=some ZaR/\∃kvs:List (Key×V),ps=kvs.map (λkv=>(kV kv.1,kv.2))/\kvs.length<=15/\Q Z6 (YM p (.dK (xE [] kvs)))
theorem aau{X:Cx}{pos:Pos}{keys:List ZfK}{values:Ya}{o_:ZfD}(h:G1 X pos keys values o_)(dB:keys.all (·.isSome)=true)(hl:keys.length=values.length)(h0:keys≠[])
  (h15:keys.length<=15):Zu (.Dict keys values pos) (nT o_):=by
 intro pins s σ H Q I q;have hn:=I.aC.fresh (aU s.heap.objs.size);have I1:=Zl4 (o:=.dK []) (h':=s.heap.push {cls:=Zax,data:=.dict #[]}) (t':=s.toks) ZnV ZA Zyt;refine wpAny_Dict_walk (knd:=Zbu) dB hl h0 h15 (aM (h pins _ σ _ _ I1 (q _ hn)) λws s2 ⟨ps,H2,I2,rel,e,kvs,ep,lk,q2⟩=>?_);subst ep;obtain⟨rs,c,rk⟩:=aeb (P:=X.prog) (w:=X.w) rel;obtain⟨z,hd,vs0,r0,dd⟩:=adH I2.aC e;cases r0
 refine⟨rs,c,dd,λh' vH hs=>⟨Yn,_,?_,rfl,q2⟩⟩;have hz:(xE [] kvs).length <=sizeLine:=by have h1:=abw kvs [];rw[jM]at h1;rw[zQ];omega
 have he:∃q,h'.get? s.heap.objs.size=some q:=let⟨q,_,_,hq,_⟩:=vH;⟨q,hq⟩;exact NQ I2 (by rw[e];exact True.intro) hs he (adI hz hd (rk.merge .nil) vH)
structure M2(X:Cx)(o:Expr)(m:Str)(apos:Pos)(e f:Expr)(gq:Pos):Prop where
 base:ZeV m X.env Us=Za7 X.env
 vF:((ZbX ZwE).all ZqO&&(backToKw gq Zh0).all ZnX
  &&decide (([e,f]:List Expr).length +([]:List Keyword).length +(if([]:List Keyword).isEmpty then 0 else 1)<30))=true
 line:(apos.endLine==gq.line)=true
 trees:ZbX ZwE=[(false,Yv),(false,eval f X.env)]
def IsD(H:Hp)(a:Addr):Prop:=(∃kvs,Za4 YA)∨∃kvs,Za4 ZaC
theorem al5{X:Cx}{pins:Zv}{σ:St}{H:Hp}{s:Shared}{a:Addr}(I:Zf)(d:IsD H a):
  s.TypeIs ZX "dict"/\(∀b,Value.ref a=.ref b->∃ob,s.heap.get? b=some ob/\ob.dict=none)/\(a==sysModules)=false:=by
 rcases d with⟨kvs,e⟩|⟨kvs,e⟩
 ·obtain⟨_,hd,vs,_,dd⟩:=yP I.aC e;refine ZvU;cases q
  ext cA
 ·obtain⟨_,hd,xs,_,dd⟩:=yO I.aC e;refine ZvU;cases q
  ext cA
section
variable {X:Cx}{pins:Zv}{σ:St}{H:Hp}{s:Shared}{a:Addr}{y d:V}{u r:Value}{o:ZM}{A:Around}{E:Zt}
theorem aqp{Q:Zt}(hu:ZiX)(I:Zf)(g:bZ H a y o)(ry:XB)(rd:RelV d r)(h:∀w' s',ZQ H s'->RelV (o.getD d) w'->Q w' s'):
  wpAny Yd A (call (.builtin "dict.get") [.ref a,u,r]) Q E s:=by
 rcases g with⟨kvs,k,e,ey,l⟩|⟨kvs,k,b,e,ey,eb,l⟩
 ·ext a2;refine Zru (meets_dict_get_default Zbu a (uV ry) hd r) ⟨_,dd.mapOf,h _ _ YL ?_⟩;rw[l];exact(rel.val k).getD rd
 ·subst ey;ext aq
  ext a9;refine Zru (meetsH_dict_get_default (tupleKind Zbu) a b hd r) ⟨HW hu,k,xs,ZjA,dd,h _ _ YL ?_⟩;rw[l];exact(rel.val k).getD rd
end
def tS(td ty tx:TE):TE:=fun σ H Q=>td σ H λx H1=>∃a,x=.ref a/\IsD H1 a/\ty σ H1 λy H2=>tx σ H2 λz H3=>∃o,bZ H3 a y o/\Q (o.getD z) H3
section
variable {X:Cx}{o e f:Expr}{apos gq:Pos}{td ty tx:TE}
theorem aav(hu:ZiA)(ho:Zu o td)(he:Zu e ty)(hf:Zu f tx)(m:M2 X o "get" apos e f gq):Zu (.Call (ZcI "get" apos) [e,f] [] gq) (tS td ty tx):=by
 ext f;refine wpAny_Call_method m.base m.vF m.line PySem.F.plainAttrs_dict aeK PySem.F.type_dict_get (aM ZcC λu s1 ⟨x,H1,I1,rx,a,ex,d,q1⟩=>?_);subst ex;obtain rfl:u=Value.ref a:=rx;obtain⟨t1,t2,_⟩:=al5 I1 d;refine⟨t1,t2,?_⟩;rw[m.trees];refine Py rfl (afY (Hn (aM Zvg λiv s2 ⟨y,H2,I2,ry,q2⟩=>
  Hn (aM (hf pins s2 σ H2 _ I2 q2) λfv s3 ⟨z,H3,I3,rz,ov,g,q3⟩=>Pr ?_))))
 exact aqp hu I3 g ry rz λw' s4 I4 kW=>⟨_,H3,I4,kW,q3⟩
end
section
variable {X:Cx}{pins:Zv}{σ:St}{H:Hp}{s:Shared}{a:Addr}{kvs:Yb}{A:Around}{E:Zt}
end
section
variable {X:Cx}{pins:Zv}{σ:St}{H:Hp}{s:Shared}{a:Addr}{y:V}{u:Value}{A:Around}{E:Zt}
end
end L2
namespace L2
open PySem PySem.Spec PyProof.Rows
section
variable {prog:Program}{w:World}{A:Around}{E:Zt}
end
section
variable {X:Cx}
end
end L2
namespace L2
open PySem PySem.Spec PyProof.Rows
section
variable {X:Cx}{pins:Zv}{σ:St}{H:Hp}{s:Shared}{h':Heap}
theorem Inv.Qa{t':Nat}{ch:Zy}(I:Zf)(k:ZrK)(hf:∀b∈ch,Zef):ZQ H {s with heap:=h',toks:=t'}:=by
 have rH:∀b u,H b=some u->b∉ch:=λb u e z=>by have q:=(hf b z).1;rw[q]at e;cases e
 refine ZqS
  (λ_ _ _ _ n=>n) ZtU Zp5 Zo9 Zlz Zp6 Zjj I.bare
 ·ext b4
 ·refine(Zcj u e).lO Zmr Zgb λ_ _ q=>q;rcases hc with z|z
  ·rw[z];exact rH b u e
  ·exact rH c _ z
theorem Inv.CJ{t':Nat}{ch:Zy}{T:Addr}{ob:HO}(I:Zf)(k:ZrK)(hf:∀b∈ch,Zef)(hT:s.heap.objs.size<=T)
  (new:WM (ZH T ob) h' T ob):ZQ (ZH T ob) {s with heap:=h',toks:=t'}:=by
 have hn:H T=none:=I.aC.fresh hT;have rH:∀b u,H b=some u->b∉ch:=λb u e z=>by have q:=(hf b z).1;rw[q]at e;cases e
 refine ZqS
  (λb o _ e n=>?_) ZtU (λb xs e=>?_) (λb o u e=>?_) (λb ps e=>⟨#[],?_⟩) Zp6 Zjj I.bare
 ·rw[ax (eB (hX YZ hT))];exact n
 ·rw[ax ZbV];exact e
 ·rw[ax ZbV];exact e
 ·rw[ax ZbV,e];simp
 ·ext b4
 ·by_cases hb:b=T
  ·subst hb;rw[au]at e;cases e
   exact new
  ·rw[ax hb]at e;refine(Zcj u e).lO Zmr (λc q=>ZxP) λc xs q=>by rw[ax Zdx];exact q
   rcases hc with z|z
   ·rw[z];exact rH b u e
   ·exact rH c _ z
theorem Inv.lock{d:Addr}{u:HO}(I:Zf)(h:Zgi)(mu:qu ZdN):∃od,ZQ ZfV s:=by
 have x:=I.aC d u h;have ex:∃od,s.heap.get? d=some od:=by
  cases u with
  |lst xs=>obtain⟨_,_,_,_,e⟩:=x;exact⟨_,e⟩
  |dK kvs=>obtain⟨_,_,_,_,o,_,_,e,_⟩:=x;exact⟨o,e⟩
  |dT kvs=>obtain⟨_,_,_,_,o,_,_,e,_⟩:=x;exact⟨o,e⟩
  |set S n=>obtain⟨o,_,_,_,e,_⟩:=x;exact⟨o,e⟩
  |ins C dx fs=>obtain⟨_,_,_,e,_⟩:=x;exact⟨_,e⟩
  |ext φ=>obtain⟨_,⟨_,e⟩,_⟩:=x;exact⟨_,e⟩
  |_=>exact False.elim mu
 obtain⟨od,e⟩:=ex;have new:WM ZfV s.heap d Uv:=by
  refine⟨e,x.lO (λb v _ q=>q) (λb q=>?_) λb xs q=>?_⟩
  ·ext cD
  ·ext cD
 exact⟨od,I.write (x:=d) (e:=d) (t':=s.toks) (h':=s.heap) (by rw[h];exact mu) Xd (λb v _ q=>q) ⟨od,e⟩ new⟩
theorem Inv.Ap{d:Addr}{u:HO}(I:Zf)(h:Zgi)(mu:qu ZdN):∀o' u',X.wz d≠some (.bL o' u'):=λo' u' e=>by
 have q:=I.base.ny d o' u' e;rw[h]at q;cases q
 exact mu
theorem Inv.unlock{d:Addr}{od:Obj}{u:HO}(I:Zf)(h:H d=some Uv)(hn:∀o' u',X.wz d≠some (.bL o' u')):ZQ (ZH d u) s:=by
 have xC:∀b o,H b=some o->(∀o' u',o≠.bL o' u')->b≠d:=λb o e aK z=>by
  rw[z,h]at e;cases e
  exact aK _ _ rfl
 have neN:∀b,H b=none->b≠d:=λb e z=>by rw[z,h]at e;cases e
 refine⟨I.ok,I.os,I.bare,⟨I.base.keep,I.base.slot,λb o e n hx=>?_,I.base.there,λb xs e=>?_,λb o x e=>?_,λb ps e=>?_⟩,I.loc,I.cell,?_,λx c e=>?_,λp hp=>?_,λb o e=>?_,I.len⟩
 ·rw[ax (neN b ZeU)];exact ZeU
 ·have q:=I.base.o9 b xs e;rw[ax (xC b _ q Zlk)];exact q
 ·have q:=I.base.ny b o x e;rw[ax (λz=>by rw[z]at e;exact hn _ _ e)];exact q
 ·obtain⟨m,q⟩:=I.base.pb b ps e;exact⟨m,by rw[ax (xC b _ q Zlk)];exact q⟩
 ·rw[ax (neN _ I.free)];exact I.free
 ·rw[ax (neN c ZfO)];exact ZfO
 ·obtain⟨e,n,r⟩:=Zec hp;exact⟨e,by rw[ax (neN _ n)];exact n,r⟩
 ·by_cases hb:b=d
  ·rw[hb,au]at e;cases e
   rw[hb];obtain⟨_,x⟩:=I.aC d _ h;exact x.lO (λc v _ q=>q) (λc q=>ZxQ) λc xs q=>by rw[ax Zna];exact q
  ·rw[ax hb]at e;exact(Zcj o e).lO (λc v _ q=>q) (λc q=>ZxQ) λc xs q=>by rw[ax Zna];exact q
end
def ag4(t:TS):TS:=λD σ H=>∃d u,H d=some u/\qu ZdN/\∀od,t ⟨fun σ' H'=>H' d=some Uv/\D.nx σ' ZdC,λv H'=>H' d=some Uv/\D.rt v ZdC,fun σ' H'=>H' d=some Uv/\D.bk σ' ZdC,fun σ' H'=>H' d=some Uv/\D.ct σ' ZdC⟩ σ ZfV
def ag3(t:TE):TE:=fun σ H Q=>∃d u,H d=some u/\qu ZdN/\∀od,t σ ZfV λv H'=>H' d=some Uv/\Q v ZdC
section
variable {X:Cx}
theorem T9{st:Stmt}{t:TS}(h:PS X st t):PS X st (ag4 t):=by
 intro pins s σ H D I hw;obtain⟨d,u,hd,mu,hw⟩:=hw;obtain⟨od,I1⟩:=I.lock hd mu;refine aM Zxk λf s1 q=>?_;cases f with
 |next=>obtain⟨σ',H',I2,e,q⟩:=q;exact Zlx
 |brk=>obtain⟨σ',H',I2,e,q⟩:=q;exact Zlx
 |cont=>obtain⟨σ',H',I2,e,q⟩:=q;exact Zlx
 |ret v=>obtain⟨x,σ',H',I2,r,e,q⟩:=q;exact⟨x,σ',_,Zwm,r,q⟩
theorem aas{e:Expr}{t:TE}(h:Zu e t):Zu e (ag3 t):=by intro pins s σ H Q I hw;obtain⟨d,u,hd,mu,hw⟩:=hw;obtain⟨od,I1⟩:=I.lock hd mu;refine aM Zxk λv s1 ⟨x,H1,I2,r,e2,q⟩=>?_;exact⟨x,_,I2.unlock e2 (I.Ap hd mu),r,q⟩
theorem DZ{tg:Expr}{pins:Zv}{σ:St}{H:Hp}{s:Shared}{R:Zi8}{J:It}{tn:Ziz}{tk:Nat}(I:Zf)(o:Obj)
  (T:Zxg J [s.heap.objs.size] s.heap.objs.size tn) (st:tn 0 (s.heap.push o)) (q:R J H):Znq Yn {s with heap:=s.heap.push o,toks:=tk}:=by
 refine⟨s.heap.objs.size,[s.heap.objs.size],tn,J,H,rfl,I.kept λb ob e=>XY,T,st,λb hb=>?_,q⟩;have e:b=s.heap.objs.size:=by simpa using hb
 subst e;exact I.qg ZA X4
end
section
variable {X:Cx}{tg:Expr}
end
section
variable {X:Cx}{tg:Expr}
end
def Pk(x:Str):It:=⟨λi _=>i<x.cps.size,λi H v H'=>H'=H/\∃c,x.cps[i]? =some c/\v=.str ZiE,λi _=>x.cps.size<=i⟩
theorem Qb{P:Program}{w:World}{K:PySem.W.Frag}{tg:Expr}(it:Addr)(x:Str)(t:Tok)(ty:String)(rY:ty="str_ascii_iterator"∨ty="str_iterator"):
  Turn P w K tg (Pk x) [it] it ZtV where
 mem:=by simp
 obj:=λi h st b hb=>by
  have e:b=it:=by simpa using hb
  ext aV
 keep:=λi h h' st k=>let⟨o,ho,r⟩:=st;⟨o,UX o ho,r⟩
 item:=by
  ext K;ext bb;have W:Walks X.prog X.w X.A it [it] [it] x.cps.size (SignAt x) ZtV:=by
   rcases rY with e|e
   ·rw[e];exact Walks.strAscii YV it x t
   ·rw[e];exact Walks.strWide YV it x t
  have gD:["enumerate","zip","dict_itemiterator","dict_reverseitemiterator","odict_iterator","itertools.zip_longest","itertools.pairwise"].contains ty=false:=by
   rcases rY with e|e
   ·rw[e];decide
   ·rw[e];decide
  refine Zpf hg st λv h' tk hv gy kk=>?_;obtain⟨c,u,hcx,rfl⟩:=hv;have I1:ZQ H {s with heap:=h',toks:=tk}:=Zrm;obtain⟨oi,e,cc,dd⟩:=id gy;exact⟨_,rfl,ZtS e cc dd gD ⟨Zkt,H,I1,⟨u,rfl⟩,⟨rfl,c,hcx,rfl⟩,gy,λb hb=>(hf b hb).1⟩⟩
 done:=by
  ext K;ext bb;have hx:x.cps[i]? =none:=PJ hg;rcases rY with e|e
  ·rw[e]at st;exact wpAny_pyNext_ascii_end YV st hx λh' eb=>Zeq
  ·rw[e]at st;exact wpAny_pyNext_wide_end YV st hx λh' eb=>Zeq
 self:=λA i s Q E st h=>by
  rcases rY with e|e
  ·rw[e]at st;exact wpAny_pyIter_striter_ascii st h
  ·rw[e]at st;exact wpAny_pyIter_striter_wide st h
def uZ(te:TE):TI:=fun σ H R=>te σ H λv H1=>∃x,v=.str x/\R (Pk x) H1
theorem Kg{X:Cx}{tg e:Expr}{te:TE}(he:XT):Zcb e (uZ te):=by
 ext w;refine aM Zae λv s1 ⟨y,H1,I1,r1,x,ex,q⟩=>?_;subst ex;obtain⟨t,rfl⟩:=r1;cases ha:x.cps.all (· <128)
 ·exact wpAny_pyIter_wide ha (Zh6 (Qb _ x t "str_iterator" Zdy) ZcF q)
 ·exact wpAny_pyIter_ascii ha (Zh6 (Qb _ x t "str_ascii_iterator" Xd) ZcF q)
section
variable {prog:Program}{w:World}{A:Around}{E:Zt}{s:Shared}
theorem abZ{d:Addr}{o:Obj}{es:Ur}{ep:Nat}{Q:Zt}(hd:(d==sysModules)=false)(ho:s.heap.get? d=some o)(hc:o.ExactDict)(acT:Ze9)
  (hQ:Q Yn {s with heap:=s.heap.push {cls:=.type "dict_keyiterator",data:=.fields #[.ref d,.int 0 0,.int es.size 0,.int ep 0]}}):
  wpAny Y5 A (pyIter We) Q E s:=by
 have hT:s.TypeIs We "dict":=⟨o,ho,hc.1⟩;refine HA hT F.slot_dict_iter (mJ F.slot_dict_iter hT F.entry_dict_iter ?_ (F.args_dict_iter_1 _));unfold Builtin.«dict.__iter__»;ext q;unfold Builtin.Dict.dictSlotNone;refine aj (wpAny_notOrdered_dict hT ?_);show YF (pure (Value.ref d)) _ _ s;refine Ys;show YF (Builtin.Dict.showsAll d>>= _) _ _ s;unfold Builtin.Dict.showsAll;rw[ae (by rw[hd];exact eh)];refine aj Ys;refine aj (P1 ho acT ?_);refine aj (P0 ho acT ?_);refine aj (wJ (aL ⟨_,rfl,"dict_keyiterator",_,Zih,Cu.lookup,?_⟩));simpa[rawInt]using hQ
theorem akJ{it d:Addr}{i n ep:Nat}{od:Obj}{es:Ur}{en:DictEntry}{Q:ZcN}(hit:Zvk)(ni:Zx7)(bt:od.data=ZaW ep)
  (hsz:es.size=n) (hx:es[i]? =some en) (hQ:∀h',Zx4 n ep->Zv0->Q (some en.key) {s with heap:=h'}):ZhS:=by
 ext c5;refine aj (zC (ZeA hit.typeIs Cu
  (mJ Cu hit.typeIs att ?_ (atu _))))
 refine aj Ys;ext q;ext q
 first |refine aj (Hw hit.typeIs (aL ?_))|refine aj (Hv hit.typeIs (aL ?_))
 refine Zoh;have A1:Builtin.Dict_items.ownsTuple "dict_keyiterator"=false:=by decide
 ext bD;rw[ae Zh];refine Ys;obtain⟨A4,yf⟩:=aty.mp hx;simp only[show¬((i:Int)<0)from by omega,i5,mE,atz A4];ext q
 first |refine aj (Hw hit.typeIs (aL ?_))|refine aj (Hv hit.typeIs (aL ?_))
 refine aj (wpAny_isOneOf_keyiter hit.typeIs ?_);show YF (setField Wq 1 Zxr>>= _) _ _ s;refine Znh;have Ff:(s.heap.update it ZrC).IsKeyIter it d XG n ep:=
  ⟨_,zu _ ho (aeQ ZgB),(aeR ..).trans hc,by rw[wd hd];simp[rawInt]⟩
 refine aj (nN ?_);refine aj (wpAny_isOneOf_keyiter (s:={s with heap:=s.heap.update it (Obj.mapFields (·.setIfInBounds 1 (rawInt ((i:Int)+1))))}) Ff.typeIs ?_);show YF (pure es[i].key) _ _ _;rw[yf];exact aL (aL ⟨_,rfl,aL (hQ _ Ff (wx ..))⟩)
theorem aaT{it d:Addr}{i n ep:Nat}{od:Obj}{es:Ur}{Q:ZcN}(hh:Vc)(hit:Zvk)(ni:Zx7)(bt:od.data=ZaW ep)
  (hsz:es.size=n) (vh:n<=i) (hQ:ZrE):ZhS:=by
 ext c5;refine aj (zC (ZeA hit.typeIs Cu
  (mJ Cu hit.typeIs att ?_ (atu _))))
 refine aj Ys;ext q;ext q
 first |refine aj (Hw hit.typeIs (aL ?_))|refine aj (Hv hit.typeIs (aL ?_))
 refine Zoh;have A1:Builtin.Dict_items.ownsTuple "dict_keyiterator"=false:=by decide
 ext bD;rw[ae Zh];refine Ys;have anj:es.size<=i:=by rw[hsz];exact vh
 simp only[show¬((i:Int)<0)from by omega,i5,mE,PJ anj];ext q
 first |refine aj (Hw hit.typeIs (aL ?_))|refine aj (Hv hit.typeIs (aL ?_))
 show YF (setField Wq 0 .none >>= _) _ _ s;refine Znh;show YF (newExc (.type "StopIteration") []>>= _) _ _ _;ext q;ext bE;rw[show A.in1.handled=none from hh];refine Zwv;refine aj (HF (T:="StopIteration") (b:=true) Zih ab3 ?_);exact aL (hQ _ (((wx ..).extBut.push _).push _))
end
theorem alF{κ:Type}{kvs:XN}{vs:Zap}(h:XO):∀{i:Nat} {k:κ} {v:V},kvs[i]? =some (k,v)->∃u,vs[i]? =some (k,u)/\RelV v u:=by
 unfold KV at h
 induction h with
 |nil=>intro i k v e;simp at e
 | @cons a b l₁ l₂ r t ih=>
  intro i k v e;cases i with
  |zero=>
   simp only[afA,aeN]at e;subst e;refine⟨b.2,?_,r.2⟩;simp only[afA];exact cb some (Prod.ext r.1.symm rfl)
  |succ j=>
   simp only[afB]at e⊢;exact ih e
theorem gN{α β:Type}{G:Uu}{l₁:ZN}{l₂:Wz}(h:ZgY l₁ l₂):∀{i:Nat} {a:α},l₁[i]? =some a->∃b,l₂[i]? =some b/\G a b:=by
 induction h with
 |nil=>intro i a e;simp at e
 | @cons a b l₁ l₂ r t ih=>
  intro i a' e;cases i with
  |zero=>
   simp only[afA,aeN]at e;subst e;exact⟨b,rfl,r⟩
  |succ j=>
   simp only[afB]at e⊢;exact ih e
theorem ahR{k:Key}{u:Value}(h:pM k u=true):RelV (kV k) u:=by
 rcases m5 h with⟨i,t,rfl,rfl⟩|⟨x,t,rfl,rfl⟩
 ·exact Vk
 ·exact Vk
section
variable {X:Cx}{pins:Zv}{σ:St}{H:Hp}{s:Shared}{d:Addr}{o:Obj}
theorem Inv.Nm{kvs:Yb}(I:Zf)(h:H d=some Zdo):
  (d==sysModules)=false/\s.heap.get? d=some o/\o.ExactDict/\∃(es:Ur) (ep:Nat) (vs:Zfc),o.data=ZaW ep/\es.size=kvs.length/\XO/\s.heap.DictAt Zbu d vs ep:=by
 obtain⟨hd,z,hs,vs,kv,o',es,ep,ho,hx,gF,r⟩:=I.aC d _ h;rw[hd]at ho;cases ho
 refine⟨hs,hd,hx,es,ep,vs,gF,?_,kv,o,es,hd,hx,gF,r⟩;have l1:=r.2.1.length;have l2:kvs.length=vs.length:=y6 kv;rw[oY]at l1;omega
theorem Inv.Nl{kvs:Vb}(I:Zf)(h:H d=some ZjK):
  (d==sysModules)=false/\s.heap.get? d=some o/\o.ExactDict/\∃(es:Ur) (ep:Nat),o.data=ZaW ep/\es.size=kvs.length/\
   ∀(i:Nat) (k:Zb5) (v:V),kvs[i]? =some (k,v)->∃(en:DictEntry) (q:Addr),es[i]? =some en/\en.key=.ref q/\H q=some Zfa:=by
 obtain⟨hd,z,hs,xs,pr,o',es,ep,ho,hx,gF,he,_⟩:=I.aC d _ h;rw[hd]at ho;cases ho
 refine⟨hs,hd,hx,es,ep,gF,?_,λi k v e=>?_⟩
 ·have l1:es.size=xs.length:=size_of_entries he;have l2:kvs.length=xs.length:=y6 pr;omega
 ·obtain⟨b,hb,e1,e2,_⟩:=gN pr e;have q:=entry_at he i;rw[hb]at q;exact⟨_,b.2.1,q,rfl,e2⟩
end
def Hj(d:Addr)(o:Obj)(kvs:Yb):It:=
 ⟨λi H=>H d=some Zdo/\i<kvs.length,λi H x H'=>H'=H/\∃k v,kvs[i]? =some (k,v)/\x=kV k,λi H=>H d=some Zdo/\kvs.length<=i⟩
def afR(d:Addr)(o:Obj)(kvs:Vb):It:=
 ⟨λi H=>H d=some ZjK/\i<kvs.length,λi H x H'=>H'=H/\∃(k:Zb5) (v:V) (q:Addr),kvs[i]? =some (k,v)/\x=.ref q/\H q=some Zfa,λi H=>H d=some ZjK/\kvs.length<=i⟩
theorem FT{o:Obj}{es lG:Ur}{ep mm:Nat}(h:Ze9)(h':o.data=.dict lG mm):lG=es/\mm=ep:=by
 rw[h]at h';cases h'
 exact Uy
section
variable {P:Program}{w:World}{K:PySem.W.Frag}{tg:Expr}{d:Addr}{o:Obj}{es:Ur}{ep:Nat}
theorem agG{kvs:Yb}(it:Addr)(ni:Ze9):ZfF Zjr [it] it Zsl where
 mem:=by simp
 obj:=λi h st b hb=>by
  have e:b=it:=by simpa using hb
  ext ca
 keep:=λi h h' st k=>st.at λoi e=>UX oi e
 item:=by intro X hP hw hK hc i pins s σ H E I hf st hg;subst hP hw hK;obtain⟨hd,hi⟩:=hg;obtain⟨f0,f1,f2,f3,f4,f5⟩:=WS;obtain⟨hs,oC,hx,lG,mm,vs,gF,hsz,kv,hm⟩:=I.Nm hd;obtain⟨rfl,rfl⟩:=FT ni gF;obtain⟨⟨k,v⟩,eU⟩:∃p,kvs[i]? =some p:=⟨kvs[i],fP hi⟩;obtain⟨u,hu,ru⟩:=alF kv eU;have hl:kvs.length=vs.length:=y6 kv;rw[hl]at st;refine wpAny_pyNext_dict_item st hm hu λkey h' A_ gy sb=>?_;have I1:ZQ H {s with heap:=h'}:=ZrP;obtain⟨oi,e,c,dd⟩:=id gy;refine⟨key,rfl,ZhC dd Zk ⟨kV k,H,I1,ahR (show pM k key=true from A_),⟨rfl,k,v,eU,rfl⟩,?_,λb hb=>(hf b hb).1⟩⟩;show Zx4 kvs.length _;rw[hl];exact gy
 done:=by intro X hP hw hK hc i pins s σ H E I hf st hg;subst hP hw hK;obtain⟨hd,hi⟩:=hg;obtain⟨f0,f1,f2,f3,f4,f5⟩:=WS;obtain⟨hs,oC,hx,lG,mm,vs,gF,hsz,kv,hm⟩:=I.Nm hd;obtain⟨rfl,rfl⟩:=FT ni gF;exact Zyr hi λh' eb=>ZrI
 self:=λA i s Q E st h=>wpAny_pyIter_keyiter st h
theorem agF{kvs:Vb}(it:Addr)(ni:Ze9):ZfF (afR d o kvs) [it] it Zsl where
 mem:=by simp
 obj:=λi h st b hb=>by
  have e:b=it:=by simpa using hb
  ext ca
 keep:=λi h h' st k=>st.at λoi e=>UX oi e
 item:=by intro X hP hw hK hc i pins s σ H E I hf st hg;subst hP hw hK;obtain⟨hd,hi⟩:=hg;obtain⟨f0,f1,f2,f3,f4,f5⟩:=WS;obtain⟨hs,oC,hx,lG,mm,gF,hsz,ent⟩:=I.Nl hd;obtain⟨rfl,rfl⟩:=FT ni gF;obtain⟨⟨k,v⟩,eU⟩:∃p,kvs[i]? =some p:=⟨kvs[i],fP hi⟩;obtain⟨en,q,yf,A_,hq⟩:=ent i k v eU;refine akJ st oC gF hsz yf λh' gy sb=>?_;have I1:ZQ H {s with heap:=h'}:=ZrP;obtain⟨oi,e,c,dd⟩:=id gy;exact⟨en.key,rfl,ZhC dd Zk ⟨XR,H,I1,A_,⟨rfl,k,v,q,eU,rfl,hq⟩,gy,λb hb=>(hf b hb).1⟩⟩
 done:=by intro X hP hw hK hc i pins s σ H E I hf st hg;subst hP hw hK;obtain⟨hd,hi⟩:=hg;obtain⟨f0,f1,f2,f3,f4,f5⟩:=WS;obtain⟨hs,oC,hx,lG,mm,gF,hsz,ent⟩:=I.Nl hd;obtain⟨rfl,rfl⟩:=FT ni gF;exact Zyr hi λh' eb=>ZrI
 self:=λA i s Q E st h=>by refine HA st.typeIs ats (mJ ats st.typeIs F.entry_dict_keyiterator_iter ?_ (F.args_dict_keyiterator_iter_1 _));show YF (ret Wq) _ _ s;exact aL ⟨_,rfl,"dict_keyiterator",_,st.typeIs,Cu.lookup,h⟩
end
def acf(td:TE):TI:=fun σ H R=>td σ H λx H1=>∃d o,x=.ref d/\((∃kvs,H1 d=some Zdo/\R Zjr H1)∨∃kvs,H1 d=some ZjK/\R (afR d o kvs) H1)
section
variable {X:Cx}{tg e:Expr}{td:TE}{apos gq:Pos}
theorem Kh(he:Zu e td):Zcb e (acf td):=by
 ext w;refine aM Zae λu s1 ⟨x,H1,I1,rx,d,o,ex,q⟩=>?_;subst ex;obtain rfl:u=Value.ref d:=rx;rcases q with⟨kvs,hd,q⟩|⟨kvs,hd,q⟩
 ·obtain⟨hs,oC,hx,es,ep,vs,gF,hsz,kv,hm⟩:=I1.Nm hd;refine abZ hs oC hx gF (Zh6 (agG _ gF) ZmO q);rw[hsz]<;>rfl
 ·obtain⟨hs,oC,hx,es,ep,gF,hsz,ent⟩:=I1.Nl hd;refine abZ hs oC hx gF (Zh6 (agF _ gF) ZmO q);rw[hsz]<;>rfl
end
def Hk(K:PySem.W.Frag)(a:Addr):It:=
 ⟨λi H=>∃(xs:Ze) (x:V),YJ/\xs[i]? =some x,λi H v H'=>∃T x,v=.ref T/\H T=none/\H'=ZH T ZhU/\∀xs,YJ->xs[i]? =some x,λi H=>∃xs:List V,YJ/\xs.length<=i⟩
theorem agI{P:Program}{w:World}{K:PySem.W.Frag}{elts:Ya}{kk:Nat}{fQ:Pos}(a e it:Addr):
  Turn P w K VC ZkQ [e,it] e (λi h=>(∃old,IsEnum h e it ((i:Nat):Int) old)/\Zfo a i/\e≠it) where
 mem:=by simp
 obj:=λi h st b hb=>by
  ext cU;have e':b=e∨b=it:=by simpa using hb
  rcases e' with z|z
  ·rw[z];exact⟨_,he,λv q=>nomatch q⟩
  ·rw[z];exact⟨o,ho,λv q=>ZxV⟩
 keep:=λi h h' st k=>let⟨⟨old,he⟩,hi,aK⟩:=st;⟨⟨old,k e Zh _ he⟩,hi.at λo q=>UX o q,aK⟩
 item:=by
  ext K;ext bK;have LY:it<s.heap.objs.size:=by obtain⟨_,q,_⟩:=hit;exact bT q
  refine wpAny_pyNext_enum_item he hit p.isList (x:=u) Zik aK λh' ho Ff hT hsz hk=>?_;refine⟨_,rfl,agd (s:={s with heap:=h',toks:=s.toks+1}) ho λjH L8 sb=>?_⟩;have vp:jH.get? s.heap.objs.size=some {cls:=Xy,data:=.seq #[Xs s.toks,u]}:=(Zcu (oR kH)).trans hT;have new:WM (Wl ZhU) jH s.heap.objs.size ZhU:=
   ⟨Zma,[Xs s.toks,u],.cons Zs Zop,Zii⟩
  have I1:ZQ (Wl ZhU) {s with heap:=jH,toks:=s.toks+1}:=
   I.CJ (ch:=[e,it]) ZqY hf ZA new
  refine⟨Yn,_,I1,rfl,ZrF,⟨⟨u,?_⟩,Ff.at λo q=>(sb.2 it (qt aK)).trans q,aK⟩,λb hb=>?_⟩
  ·have e1:((i+1 :Nat):Int)=(i:Int)+1:=by omega
   rw[e1];exact L8
  ·have fi:b<s.heap.objs.size:=by
    have e':b=e∨b=it:=by simpa using hb
    rcases e' with z|z
    ·rw[z];exact kH
    ·rw[z];exact LY
   rw[ax (eB fi)];exact(hf b hb).1
 done:=by intro X hP hw hK hc i pins s σ H E I hf st hg;subst hP hw hK;obtain⟨⟨old,he⟩,hit,aK⟩:=st;obtain⟨xs,hq,hx⟩:=hg;obtain⟨its,rv,p,hz⟩:=UL;obtain⟨f0,f1,f2,f3,f4,f5⟩:=WS;have hl:=rv.length;exact wpAny_pyNext_enum_end YV he hit p.isList (by simp;omega) λh' eb=>ZrN
 self:=λA i s Q E st h=>let⟨⟨_,he⟩,_⟩:=st;HB he h
def rW(K:PySem.W.Frag)(ta:TA):TI:=fun σ H R=>Xb H λvs H1=>∃a xs,vs=[.ref a]/\UA/\R ZkQ H1
theorem aim{X:Cx}{e:Expr}{ta:TA}{p pos fQ:Pos}{elts:Ya}{kk:Nat}(hg:Zou)(hm:Zm4)(ha:PA X [e] ta)(hs:starEach [e] X.env=[(false,Yv)]:=by rfl):
  PI X VC Zsn (rW X.K ta):=by
 ext w;refine Call_ (ZfB boot_enumerate (Zk3 hs rfl));obtain⟨a,xs,ex,hq,q⟩:=q1;subst ex;cases r1 with
 |cons r rr=>
  cases rr
  cases r
  obtain⟨its,rv,p',hz⟩:=I1.list hq;refine call_enumerate_list p'.isList λh' he hit hsz hk=>HB he ?_;have I2:ZQ H1 {s1 with heap:=h'}:=Zmt;refine⟨s1.heap.objs.size+1,[s1.heap.objs.size+1,s1.heap.objs.size],_,_,H1,rfl,I2,agI a (s1.heap.objs.size+1) s1.heap.objs.size,Zsm,λb hb=>?_,q⟩;have e':b=s1.heap.objs.size+1∨b=s1.heap.objs.size:=by simpa using hb
  have hle:s1.heap.objs.size<=b:=by
   rcases e' with z|z
   ·ext X
   ·rw[z];exact ZA
  exact Zl6
theorem aed:bootBuiltins "zip"=some (.type "zip"):=by decide+kernel
def Ph(K:PySem.W.Frag)(a b:Addr):It:=
 ⟨λi H=>∃(xs ys:Ze) (x y:V),YJ/\ZdU/\xs[i]? =some x/\ys[i]? =some y,
  λi H v H'=>∃T x y,v=.ref T/\H T=none/\H'=ZH T ZfJ/\(∀xs,YJ->xs[i]? =some x)/\∀ys,ZdU->ys[i]? =some y,
  λi H=>∃xs ys:List V,ag K H a xs/\ag K H b ys/\(xs.length<=i∨ys.length<=i)⟩
theorem agB{P:Program}{w:World}{K:PySem.W.Frag}{elts:Ya}{kk:Nat}{fQ:Pos}{a b z TI TO i1 i2:Addr}(D:ZipApart z TI TO i1 i2 a b):
  Turn P w K VC (Ph K a b) [z,TI,TO,i1,i2] z (λi h=>IsZip h z TI TO .none /\IsPair h TI Zkg Zkh/\(∃x y,IsPair h TO x y)/\h.IsListIter i1 a i/\h.IsListIter i2 b i) where
 mem:=by simp
 obj:=λi h st c hc=>by
  obtain⟨hz,dY,⟨x,y,fJ⟩,⟨o1,e1,_,d1⟩,⟨o2,e2,_,d2⟩⟩:=st;have e':c=z∨c=TI∨c=TO∨c=i1∨c=i2:=by simpa using hc
  rcases e' with q|q|q|q|q
  ·rw[q];exact Zwh
  ·rw[q];exact Zwf
  ·rw[q];exact Zwg
  ·rw[q];exact Zs9
  ·rw[q];exact Zta
 keep:=λi h h' st k=>by obtain⟨hz,dY,⟨x,y,fJ⟩,h1,h2⟩:=st;exact⟨k z Zh _ hz,k TI Zh _ dY,⟨x,y,k TO Zh _ fJ⟩,h1.at λo q=>k i1 Zh o q,h2.at λo q=>k i2 Zh o q⟩
 item:=by
  ext K;ext da;obtain⟨xs,ys,x,y,iH,m_,hx,hy⟩:=hg;ext aW;obtain⟨u,hu,ru⟩:=ZgK;obtain⟨u2,pQ,JT⟩:=uj.get hy;have cE:z<s.heap.objs.size:=bT hz;refine wpAny_pyNext_zip_item D hz dY fJ h1 h2 p.isList p2.isList (x:=u) (y:=u2) Zik (by simpa using pQ) λh' z' Ow Bn h2' hT hsz hk=>?_;refine ZrM;have vp:jH.get? s.heap.objs.size=some {cls:=Xy,data:=.seq #[u,u2]}:=(Zcu (oR cE)).trans hT;have new:WM (Wl ZfJ) jH s.heap.objs.size ZfJ:=
   ⟨Zma,[u,u2],.cons ru (.cons JT .nil),Zii⟩
  have I1:ZQ (Wl ZfJ) {s with heap:=jH}:=
   I.CJ (t':=s.toks) (ch:=[z,TI,TO,i1,i2]) (λc o hb q=>(sb.2 c ZeT).trans (hk c o ZeT ZeT ZeT ZeT q)) hf ZA new
  refine⟨Yn,_,I1,rfl,⟨_,x,y,rfl,X4,rfl,λl hl=>ZvL,λl hl=>ZvM⟩,⟨Ht,?_,⟨u,u2,?_⟩,?_,?_⟩,λc nt=>?_⟩
  ·exact(Zcu D.TIz).trans (hk _ _ D.TIz D.TITO D.TIi1 D.TIi2 dY)
  ·exact(Zcu D.TOz).trans Ow
  ·exact Bn.at λo q=>(Zcu D.i1z).trans q
  ·exact h2'.at λo q=>(Zcu D.i2z).trans q
  ·have bG:c<s.heap.objs.size:=by
    have e':c=z∨c=TI∨c=TO∨c=i1∨c=i2:=by simpa using nt
    rcases e' with q|q|q|q|q
    ·rw[q];exact cE
    ·rw[q];exact bT dY
    ·rw[q];exact bT fJ
    ·rw[q];obtain⟨_,e1,_⟩:=h1;exact bT e1
    ·rw[q];obtain⟨_,e2,_⟩:=h2;exact bT e2
   rw[ax (eB bG)];exact(hf c nt).1
 done:=by
  ext K;ext da;obtain⟨xs,ys,iH,m_,acP⟩:=hg;ext aW;have l1:=rv.length;have l2:=uj.length;have he:its.toArray[i]? =none∨lx.toArray[i]? =none:=by
   rcases acP with q|q
   ·exact .inl (by simp;omega)
   ·exact .inr (by simp;omega)
  exact wpAny_pyNext_zip_end YV D hz dY fJ h1 h2 p.isList p2.isList he λh' hk=>⟨rfl,I.Qa (t':=s.toks) (ch:=[z,TI,TO,i1,i2]) (λc o hb q=>
   hk c o (λq'=>hb (by simp[q'])) (λq'=>hb (by simp[q'])) (λq'=>hb (by simp[q'])) (λq'=>hb (by simp[q'])) q) hf⟩
 self:=λA i s Q E st h=>Hz st.1 h
def rS(K:PySem.W.Frag)(ta:TA):TI:=fun σ H R=>Xb H λvs H1=>∃a b xs ys,vs=[.ref a,.ref b]/\UA/\ag K H1 b ys/\R (Ph K a b) H1
theorem aih{X:Cx}{e e2:Expr}{ta:TA}{p pos fQ:Pos}{elts:Ya}{kk:Nat}(hg:Gl X "zip")(hm:ZoV)(ha:PA X [e,e2] ta)
  (hs:starEach [e,e2] X.env=(false,Yv)::starEach [e2] X.env:=by rfl) (cC:(Xa Zw3).any Zg=false:=by rfl):
  PI X VC ZsO (rS X.K ta):=by
 ext w;refine Zvn;obtain⟨a,b,xs,ys,ex,iH,m_,q⟩:=q1;subst ex;cases r1 with
 |cons r rr=>
  cases rr with
  |cons r' rr=>
   cases rr
   cases r
   cases r'
   ext cg;have la:a<s1.heap.objs.size:=p1.lt;have lb:b<s1.heap.objs.size:=p2.lt;refine call_zip_2 p1.isList p2.isList λh' hz dY fJ h1 h2 hsz hk=>Hz hz ?_;have I2:ZQ H1 {s1 with heap:=h'}:=Zmt;refine⟨s1.heap.objs.size+4,[s1.heap.objs.size+4,s1.heap.objs.size+2,s1.heap.objs.size+3,s1.heap.objs.size,s1.heap.objs.size+1],_,_,H1,rfl,I2,agB (PySem.W.ktu_apart s1.heap.objs.size a b la lb),⟨hz,dY,⟨_,_,fJ⟩,h1,h2⟩,λc nt=>?_,q⟩;have e':c=s1.heap.objs.size+4∨c=s1.heap.objs.size+2∨c=s1.heap.objs.size+3∨c=s1.heap.objs.size∨c=s1.heap.objs.size+1:=by simpa using nt
   have hle:s1.heap.objs.size<=c:=by
    rcases e' with z|z|z|z|z
    ·ext X
    ·ext X
    ·ext X
    ·rw[z];exact ZA
    ·ext X
   exact Zl6
end L2
section
namespace Bits
open PySem PyProof.Rows
end Bits
end
section
namespace TL
open PySem PySem.Builtin PySem.Builtin.Str PySem.StrLaws
abbrev tl(x:Str):Za:=x.cps.toList
theorem mZ(x:Str):x.length=(tl x).length :=by simp[tl,Str.length]
theorem adx{x y:Str}(h:tl x=tl y):x=y:=Str.ext' (af2.mp h)
theorem CN(x y:Str):tl (x++y)=tl x++tl y:=by show(x++y).cps.toList =_;rw[Str.cps_append,af3]
theorem ak2(x:Str):(⟨(tl x).toArray⟩:Str)=x:=adx rfl
theorem agR(s:String):tl Zff=s.toList.map Char.toNat:=PyProof.Rows.signs_ofString s
def pre(S l:Za):Bool:=l.take S.length==S
def fg(S:Za):Nat->Za->Za->List Za
 |_,acc,[]=>[acc]
 |0,acc,c::r=>if pre S V0=true then acc::fg S Zjs [] r else ZiD r
 |k+1,acc,_::r=>fg S k acc r
theorem Ip(S:Za)(k:Nat)(acc:Za):fg S k acc []=[acc]:=by cases k<;>rfl
theorem QE{S acc r:Za}{c:Nat}(h:pre S V0=true):Zgo V0=acc::fg S Zjs [] r:=by show(if pre S V0=true then acc::fg S Zjs [] r else ZiD r)=_;rw[af h]
theorem QD{S acc r:Za}{c:Nat}(h:pre S V0=false):Zgo V0=ZiD r:=by show(if pre S V0=true then acc::fg S Zjs [] r else ZiD r)=_;rw[ae (by rw[h];exact eh)]
theorem QC(S:Za):∀(k:Nat) (acc l:Za),fg S k acc l=Zgo (l.drop k)
 |0,_,_=>by rw[afI]
 |k+1,acc,[]=>by rw[List.drop_nil,Ip,Ip]
 |k+1,acc,c::r=>by show fg S k acc r=Zgo (r.drop k);exact QC S k acc r
theorem aic{S:Za}(hS:S≠[]):pre S []=false:=by
 cases S with
 |nil=>exact absurd rfl hS
 |cons s S=>rfl
theorem anW{L:Za}{a:Nat}(h:a<L.length):∃c,L.drop a=c::L.drop (a+1):=⟨L[a],afK h⟩
theorem Io(S L:Za):∀(m a:Nat) (acc:Za),a+m<=L.length->(∀k,a<=k->k<a+m->pre S (L.drop k)=false)->
  fg S 0 acc (L.drop a)=fg S 0 (acc++(L.drop a).take m) (L.drop (a+m))
 |0,a,acc,_,_=>by rw[afo,fc,G4]
 |m+1,a,acc,h,hn=>by
  have bG:a<L.length:=by omega
  obtain⟨c,e⟩:=anW bG;have h0:=hn a ZA Zb;have ih:=Io S L m (a+1) (acc++[c]) Zb (λk h1 h2=>hn k Zb Zb);have e2:a+1+m=a+(m+1):=by omega
  rw[e2]at ih;rw[e]at h0;rw[e,QD h0,ih,afp,eC]<;>rfl
theorem aqg(L:Za)(a b:Nat):(L.drop a).drop b=L.drop (a+b):=by
 first
  |rw[zo]
  |rw[zo,G5]
theorem ahm{S L:Za}(hS:S≠[]){c:Nat}{acc:Za}(h:pre S (L.drop c)=true):Zgo (L.drop c)=acc::fg S 0 [] (L.drop (c+S.length)):=by
 rw[←aqg];cases e:L.drop c with
 |nil=>rw[e,aic hS]at h;cases h
 |cons d r=>
  rw[e]at h;rw[QE h,QC];cases S with
  |nil=>exact absurd rfl hS
  |cons s S=>rfl
theorem aeu{x y:Str}(hy:ZgN)(i:Nat):ZoM i↔pre V2 ZoI=true:=by
 have hx:=mZ x;have hl:=mZ y;ext b
 ·intro h;have h2:=h.2;rw[subAt_eq,hl]at h2;exact h2
 ·intro h;have e:((tl x).drop i).take (tl y).length =tl y:=eq_of_beq h;have e1:=Zaw e;rw[eY,mB]at e1;have e2:0<(tl y).length :=sX.mpr hy;refine⟨Zb,?_⟩;rw[subAt_eq,hl];exact h
theorem aaS{x y:Str}(hy:ZgN){i:Nat}(h:¬ZoM i):pre V2 ZoI=false:=by
 cases hp:pre V2 ZoI with
 |false=>rfl
 |true=>exact absurd ((aeu hy i).mpr hp) h
theorem alw{y:Str}(hy:ZgN):1<=y.length:=by have e2:0<(tl y).length :=sX.mpr hy;rw[mZ y];exact e2
theorem Qg(x:Str)(i j:Nat):tl (Zg3 i j)=((tl x).drop i).take (j-i):=strSub_toList x i j
theorem agQ(x:Str)(i:Nat):tl (Zg3 i x.length)=(tl x).drop i:=by rw[Qg,mZ x];exact we ZxW
theorem aax{x y:Str}(hy:ZgN):∀(adT:Za) (a f:Nat),a<=(tl x).length ->ChainG x y x.length a adT f->(∀k,f<=k->¬ZoM k)->
  (ZyD a adT).map tl=fg V2 0 [] ((tl x).drop a)
 |[],a,f,ha,h,hn=>by
  have e:f=a:=h;subst e;show[tl (Zg3 f x.length)]=_;have run:=Io V2 (tl x) ((tl x).length -f) f [] Zb (λk h1 _=>aaS hy (hn k h1));have e2:f+((tl x).length -f)=(tl x).length :=by omega
  rw[e2,Hg,Ip,my,we ZxW]at run;rw[run,agQ]
 |c::r,a,f,ha,h,hn=>by
  obtain⟨h1,h2,h3,h4⟩:=h;have hc:c+y.length<=x.length:=h2.1;have hx:=mZ x;have hl:=mZ y;have ih:=aax hy r (c+y.length) f Zb h4 hn;show tl (Zg3 a c)::(ZyD (c+y.length) r).map tl=_;have run:=Io V2 (tl x) (c-a) a [] Zb (λk k1 k2=>aaS hy (h3 k k1 Zb));have e2:a+(c-a)=c:=by omega
  rw[e2,my,ahm hy ((aeu hy c).mp h2)]at run;rw[run,ih,Qg,hl]
theorem ahk(x y:Str)(hy:ZgN)(hk:¬Builtin.Str.strKind x<Builtin.Str.strKind y):(Txt.split x y).map tl=fg V2 0 [] (tl x):=by
 obtain⟨f,g,hn⟩:=occ_tight x y (alw hy);have key:=aax hy _ 0 f ZI g hn;rw[afI]at key;have aaR:Zmf Zp9=[]->[x].map tl=fg V2 0 [] (tl x):=λho=>by rw[ho]at key;rw[←key];show[tl x]=[tl (Zg3 0 x.length)];rw[sub_whole]
 unfold Txt.split;by_cases h1:(decide (x.length<y.length)||decide (Builtin.Str.strKind x<Builtin.Str.strKind y))=true
 ·rw[af h1];have bG:x.length<y.length:=by
   simp only[h_,bX]at h1;rcases h1 with h|h
   ·exact h
   ·exact ZdW hk
  refine aaR ?_;cases ho:Zmf Zp9 with
  |nil=>rfl
  |cons c r=>
   rw[ho]at g;have hc:c+y.length<=x.length:=g.2.1.1;omega
 ·rw[ae h1];by_cases h2:(Zmf Zp9).isEmpty =true
  ·rw[af h2];exact aaR (Ha.mp h2)
  ·rw[ae h2,partsBetween_eq];exact key
theorem alG{x y:Str}(h:y.cps.all (· <256)=true):¬Builtin.Str.strKind x<Builtin.Str.strKind y:=by
 have e:Builtin.Str.strKind y=1:=by unfold PySem.Builtin.Str.strKind;rw[af h]
 rw[e];unfold PySem.Builtin.Str.strKind;split
 ·omega
 ·split<;>omega
def m6(S:Za):Yq->List Nat
 |[]=>[]
 |[p]=>p
 |p::q::r=>p++(S++m6 S (q::r))
theorem HX(y:Str):∀parts:List Str,tl (Str.join y parts)=m6 V2 (parts.map tl)
 |[]=>rfl
 |[_]=>rfl
 |x::z::r=>by show tl (x++y++Str.join y Zep)=tl x++(tl y++m6 V2 ((z::r).map tl));rw[CN,CN,HX y Zep,eC]
theorem join_eq(y:Str)(parts:Zc):Txt.join y parts=Str.join y parts:=glued_eq_join y parts
def gg(n:Nat):Za:=(Nat.toDigits 10 n).map Char.toNat
def iw(st:List Za×List Nat)(c:Nat):List Za×List Nat:=
 if Unicode.isSpace c=true then(if st.2=[]then st else(st.1++[st.2],[]))else(st.1,st.2++[c])
def qF(st:List Za×List Nat):Yq:=if st.2=[]then st.1 else st.1++[st.2]
theorem Ew(x:Str):x.length=0↔tl x=[]:=by rw[mZ];exact Cp
theorem ahe(ws:Zc)(u:Str)(c:Nat):((Zas c).1.map tl,tl (Zas c).2)=Ze5 c:=by
 by_cases hc:Unicode.isSpace c=true
 ·by_cases hu:u.length=0
  ·have a:Zas c=(ws,u):=(af hc).trans (af hu);have b:Ze5 c=(ws.map tl,tl u):=(af hc).trans (af ((Ew u).mp hu));rw[a,b]<;>rfl
  ·have a:Zas c=(ws++[u],Str.empty):=(af hc).trans (ae hu);have b:Ze5 c=(ws.map tl++[tl u],[]):=(af hc).trans (ae λz=>hu ((Ew u).mpr z));rw[a,b];show((ws++[u]).map tl,([]:List Nat))=_;rw[cA]<;>rfl
 ·have a:Zas c=(ws,u++⟨#[c]⟩):=ae hc;have b:Ze5 c=(ws.map tl,tl u++[c]):=ae hc;rw[a,b];show(ws.map tl,tl (u++⟨#[c]⟩))=_;rw[CN]<;>rfl
theorem RF:∀(l:Za) (st:KWd.St),((l.foldl KWd.step st).1.map tl,tl (l.foldl KWd.step st).2)=l.foldl iw (st.1.map tl,tl st.2)
 |[],_=>rfl
 |c::r,(ws,u)=>by show((r.foldl KWd.step (Zas c)).1.map tl,tl (r.foldl KWd.step (Zas c)).2)=r.foldl iw (Ze5 c);exact(RF r (Zas c)).trans (cb (λz=>r.foldl iw z) (ahe ws u c))
theorem aoF:∀q:KWd.St,(KWd.fin q).map tl=qF (q.1.map tl,tl q.2)
 |(ws,u)=>by
  show(if u.length=0 then ws else ws++[u]).map tl=(if tl u=[]then ws.map tl else ws.map tl++[tl u]);by_cases hu:u.length=0
  ·rw[af hu,af ((Ew u).mp hu)]
  ·rw[ae hu,ae (λz=>hu ((Ew u).mpr z)),cA]<;>rfl
theorem age(x:Str):(Txt.words x).map tl=qF ((tl x).foldl iw ([],[])):=by rw[KWd.words_scan];exact(aoF (KWd.scan x)).trans (cb qF (RF (tl x) ([],Str.empty)))
theorem al1{c:Nat}(h1:33<=c)(h2:c<=126):Unicode.isSpace c=false:=PySem.W.KWk.nosp h1 h2
end TL
end
namespace L2
open PySem PySem.Spec PyProof.Rows
theorem P8:∀l:List (Str×Tok),Vals ((l.map Zg).map V.str) (strValues l)
 |[]=>.nil
 |p::r=>.cons ⟨p.2,rfl⟩ (P8 r)
theorem Ie:∀{ys:Zc} {us:Zq},Vals Zbv us->StrsAre us ys
 |[],_,.nil =>.nil
 |y::ys,_,.cons r t=>by obtain⟨k,rfl⟩:=r;exact .cons y k (Ie t)
def Ac(ys:Zc):Hp->VK->Prop:=λH Q=>∀p,H p=none->Q Z6 (Vz (.lst Zbv))
section
variable {X:Cx}{pins:Zv}{σ:St}{H:Hp}{s:Shared}{Q:VK}
theorem AB{l:List (Str×Tok)}{ys:Zc}{k:Nat}(I:Zf)(e:l.map Zg=ys)(hz:Zig)(h:Ac ys H Q):
  EP X pins σ Q Yn {s with toks:=k,heap:=s.heap.push {cls:=.type "list",data:=.seq (strValues l).toArray}}:=by
 have hp:=X4;refine⟨Yn,Wl (.lst Zbv),I.laid Ziy ZA ⟨by rw[aq];exact hz,strValues l,_,?_,dj _ rfl⟩,rfl,h _ hp⟩;rw[←e];exact P8 l
end
section
variable {X:Cx}
theorem akW:oS X "str.split" ZqW:=by
 ext a5;obtain⟨a,b,rfl,rfl,hb,hz,h⟩:=h;ext h;cases rs with
 |cons r1 rs=>
  cases rs
  obtain⟨u,rfl⟩:=r1;have hl:(ZjW b).length <=sizeLine:=cq (PyProof.Rows.split_le a b) hz;have hn:(Builtin.Str.partsBetween a (ZsY Zdf) b.length).length <=sizeLine:=by have e1:=StrLaws.occ_length_le a b 0 a.length Zdf;rw[length_partsBetween];omega
  cases h1:(decide (a.length<b.length)||decide (Builtin.Str.strKind a<Builtin.Str.strKind b))
  ·cases hf:(ZsY Zdf).isEmpty
   ·refine ZlZ (meets_str_split_sep a b t u h1 hb hf Zb hn) ?_;show Yy Yn {s with toks:=_,heap:=s.heap.push {cls:=.type "list",data:=.seq (strsFrom s.toks (Builtin.Str.partsBetween a (Builtin.Str.occurrences a b 0 a.length (a.length+1)) b.length)).toArray}};rw[strsFrom_eq];exact AB (ys:=ZjW b) I ((numbered_texts _ _).trans ((ae (Kx h1)).trans (ae (Kx hf))).symm) hl h
   ·refine ZlZ (meets_str_split_not_found a b t u h1 hb hf) ?_;exact Zr0 I ((ae (Kx h1)).trans (af hf)).symm hl h
  ·refine ZlZ (meets_str_split_cannot_occur a b t u h1) ?_;exact Zr0 I (af h1).symm hl h
theorem agg(x:Str):(Txt.words x).length <=x.length+1:=by have e1:=StrLaws.words_weight x;omega
theorem akV:oS X "str.split" Zrc:=by
 ext a5;obtain⟨a,rfl,rfl,hz,h⟩:=h;ext h;cases rs
 have hl:(Txt.words a).length <=sizeLine:=cq (agg a) Zb;have hn:(Zms Zdf).length <=sizeLine:=by have e1:=(StrLaws.sw_weight a).1;have e2:=StrLaws.len_le_wsum (Zms Zdf);omega
 refine qi Ct Zky Pq (F.args_str_split_1 _) (meets_str_split_space a t Zb hn) ?_;cases hw:Zms Zdf==[(0,a.length)]
 ·simp only[kf,i5];rw[strsFrom_eq];exact AB (ys:=Zqk) I ((numbered_texts _ _).trans (ae (Kx hw)).symm) hl h
 ·simp only[iD];exact AB (l:=[(a,t)]) (ys:=Zqk) (k:=s.toks) I (af hw).symm hl h
theorem akX:oS X "str.join" (λx xs H Q=>∃a p,∃ys:List Str,x=.str a/\xs=[.ref p]/\(ZaY p Zbv∨ZaZ p Zbv)/\
  (ys.map (·.length)).sum +ys.length*a.length<=16777216/\Q (.str (Txt.join a ys)) H):=by
 ext a5;obtain⟨a,p,ys,rfl,rfl,hp,hz,h⟩:=h;ext h;cases rs with
 |cons r1 rs=>
  cases rs
  cases r1
  rcases hp with hp|hp
  ·obtain⟨its,r,⟨o,n,ho,hc,_,hd⟩,_⟩:=I.list hp;exact PyProof.Rows.join_list (items:=its.toArray) ⟨o,ho,hc,n,hd⟩ (by rw[List.toList_toArray];exact Ie r) hz λt' k=>Ztl
  ·obtain⟨its,r,ht,_⟩:=I.tuple hp;exact PyProof.Rows.join_tuple (items:=its.toArray) ht (by rw[List.toList_toArray];exact Ie r) hz λt' k=>Ztl
theorem aro:YR (.type "int") (λxs H Q=>∃a n,xs=[.str a]/\PySem.intText? a=some n/\a.length<=640/\Q Zd4 H):=by
 intro pins s σ H xs us Q I rs h;obtain⟨a,n,rfl,hn,hl,h⟩:=h;cases rs with
 |cons r1 rs=>
  cases rs
  obtain⟨t,rfl⟩:=r1;exact PySem.W.KIN.call_text hn hl ⟨Zd4,H,YL,Zs,h⟩
end
section
variable {X:Cx}{o e:Expr}{to te:TE}
def qH(r:Uh)(to:TE):TE:=fun σ H Q=>to σ H λx H1=>(∃a,x=.str a)/\r x [] H1 Q
def pj(r:Uh)(to te:TE):TE:=fun σ H Q=>to σ H λx H1=>(∃a,x=.str a)/\te σ H1 λy H2=>r x [y] H2 Q
theorem aiw{id:String}{name:Str}{apos pos:Pos}{r:Uh}(slot:Slot "str" name id)(ty:Zhg)(rule:ZkN)(ho:UT)
  (lC:Zi9 Us=Za7 X.env:=by rfl) (lz:(apos.endLine==pos.line)=true:=by rfl):Zu (.Call ZmX [] [] pos) (qH r to):=by
 ext f;refine PySem.Call_method0 lC lz ZsC;ext cn;exact⟨"str",_,F.plainAttrs_str,slot,ty,Zky,ZyM,Py rfl (PySem.evalArgs_none (rule pins s1 σ H1 _ [] _ [] Q I1 r1 .nil q1))⟩
theorem aar{id:String}{name:Str}{apos pos:Pos}{r:Uh}(slot:Slot "str" name id)(ty:Zhg)(rule:ZkN)(ho:UT)(he:XT)
  (hs:starEach [e] X.env=[(false,Yv)]:=by rfl) (lC:Zi9 Us=Za7 X.env:=by rfl) (lz:(apos.endLine==pos.line)=true:=by rfl):
  PE X (.Call ZmX [e] [] pos) (pj r to te):=by
 ext f;refine PySem.Call_method1 lC hs lz ZsC;ext cn;refine⟨"str",_,F.plainAttrs_str,slot,ty,Zky,ZyM,Py rfl (afY (Hn ?_))⟩;exact aM Zvg λu s2 ⟨y,H2,I2,r2,q2⟩=>Pr (rule pins s2 σ H2 _ [y] _ [u] Q I2 r1 (.cons r2 .nil) q2)
theorem ais{apos pos:Pos}(ho:UT)(he:XT)(hs:starEach [e] X.env=[(false,Yv)]:=by rfl)(lC:ZeV "split" X.env Us=Za7 X.env:=by rfl)(lz:(apos.endLine==pos.line)=true:=by rfl):
  PE X (.Call Zyq [e] [] pos) (pj ZqW to te):=
 aar Ct F.type_str_split akW ho he hs lC lz
theorem aip{apos pos:Pos}(ho:UT)(lC:ZeV "split" X.env Us=Za7 X.env:=by rfl)(lz:(apos.endLine==pos.line)=true:=by rfl):
  PE X (.Call Zyq [] [] pos) (qH Zrc to):=
 aiw Ct F.type_str_split akV ho lC lz
theorem aat{apos pos:Pos}(ho:UT)(he:XT)(hs:starEach [e] X.env=[(false,Yv)]:=by rfl)(lC:ZeV "join" X.env Us=Za7 X.env:=by rfl)(lz:(apos.endLine==pos.line)=true:=by rfl):
  PE X (.Call (ZcI "join" apos) [e] [] pos) (pj (λx xs H Q=>∃a p,∃ys:List Str,x=.str a/\xs=[.ref p]/\(ZaY p Zbv∨ZaZ p Zbv)/\
   (ys.map (·.length)).sum +ys.length*a.length<=16777216/\Q (.str (Txt.join a ys)) H) to te):=
 aar F.slot_str_join F.type_str_join akX ho he hs lC lz
end
end L2
namespace L2
open PySem PySem.Spec PyProof.Rows
section
variable {X:Cx}
theorem Kt:Zif (λx y H Q=>∃(c:Nat) (z:Str),x=.str ZiE/\y=.str z/\Q (.bl (decide (c∈z.cps.toList))) H):=by intro pins s σ H x y v u Q I rx ry h;obtain⟨c,z,rfl,rfl,q⟩:=h;obtain⟨t,rfl⟩:=rx;obtain⟨t',rfl⟩:=ry;exact PyProof.Rows.in_str (dC I q (asf z c).symm)
theorem aiN:ZmI (λx y H Q=>∃(c:Nat) (z:Str),x=.str ZiE/\y=.str z/\Q (.bl (!decide (c∈z.cps.toList))) H):=by intro pins s σ H x y v u Q I rx ry h;obtain⟨c,z,rfl,rfl,q⟩:=h;obtain⟨t,rfl⟩:=rx;obtain⟨t',rfl⟩:=ry;exact PyProof.Rows.notIn_str (Vw (cb Bool.not (asf z c).symm))
end
end L2
namespace Att
open PySem PySem.W PySem.Calls PyProof.Rows
section
variable {prog:Program}{w:World}{A:Around}{E:Zt}{s:Shared}{K:Frag}
end
end Att
namespace L2
open PySem PySem.Spec PyProof.Rows
theorem P9:∀{vs:Zq} {ns:ZK},IntsAre vs ns->Vals Zfs vs
 |_,_,.nil =>.nil
 |_,_,.cons n t h=>.cons Vk (P9 h)
end L2
namespace L2
open PySem PySem.Spec PyProof.Rows
end L2
namespace L2
open PySem PySem.Spec PyProof.Rows
def inClass(s:Stmt)(j:Nat):Stmt:=match s with
 | .ClassDef _ _ _ body _ _ _ _ _ _ _=>body.getD j Zh5
 |_=>Zh5
def vG(s:Stmt):Arguments:=match s with
 | .FunctionDef _ a _ _ _ _ _ _ _ _=>a
 |_=>{posonlyargs:=[],args:=[],vararg:=none,kwonlyargs:=[],kw_defaults:=[],kwarg:=none,defaults:=[]}
def oK(s:Stmt):WV:=match s with
 | .FunctionDef _ _ b _ _ _ _ _ _ _=>b
 |_=>[]
def aA(s:Stmt):Scope:=match s with
 | .FunctionDef _ _ _ _ _ _ sc _ _ _=>sc
 |_=>{kind:=.function,names:=[],isGenerator:=false,isCoroutine:=false}
abbrev aQ:qz:=λ_ _ _ _ _ _=>False
abbrev E0:XK:=λ_ _ _=>False
theorem D8{X:Cx}:Passes aQ X E0:=λ_ _ _ _ _ _ _ h=>h.elim
structure aS(K:PySem.W.Frag)(x qual:Str)(st:Stmt)(f:Addr)(fd:FuncData):Prop where
 ex:∃(oc:Value) (od:Ws) (kV doc pm:Value) (an:Ws) (aG ct:Value) (jn:ZdF),
  fd=ZqQ ct/\K.lookup f=some Zw8/\ZlC qual=true
 kp:Zbi Yo=true
section
variable {P:Program}{w:World}{K:PySem.W.Frag}{mg:Zx}{base:Heap}
theorem aS.ok{x qual:Str}{st:Stmt}{f:Addr}{fd:FuncData}{N ps:Zc}{k:Nat}{sp:Sp}(F:ZiZ fd)(S:aV N ps Zd7)(len:Zlm)
  (Bf:∀(aG:Value) (A:Around) (outer:WZ) (s:Shared) (H:Hp) (vs:Ze) (Q:VK) (E:XK),eA k (A.deeper (Zs2 aG))->Zdw->
   ∃t,jb (sJ aQ P w K mg base N qual (aA st) f aG A outer s H E).mY (oK st) t/\t {nx:=λ_ H'=>Q .ba H',rt:=Q} (start N vs) H):aO P w K mg base aQ (k+1) f fd ps sp:=by
 ext aZ;refine adn lk lB S len λA outer s H vs Q E hr ow=>?_;obtain⟨t,h,q⟩:=Bf aG A outer s H vs Q E hr ow;exact⟨t,h.mY,q⟩
theorem aS.binds{x qual:Str}{st:Stmt}{f:Addr}{fd:FuncData}{ps:Zc}(F:ZiZ fd)
  (h:∀(kV doc pm:Value) (an:Ws) (aG ct:Value) (us:Zq),us.length=ps.length->bindArgs ZkR Zf8=pure ZbI):UE ps []:=by
 ext aZ;exact .all (h kV doc pm an aG ct)
theorem FH{x qual:Str}{st:Stmt}{f:Addr}{oc:Value}{od an:Ws}{jn:ZdF}{kV doc pm aG ct:Value}(l:K.lookup f=some ⟨oc,od,.func ZkR,jn⟩)
  (c:ZpG) (k:Zqn):ZiZ ZkR:=⟨⟨oc,od,kV,doc,pm,an,aG,ct,jn,rfl,l,c⟩,k⟩
end
theorem gi{A:Around}{k:Nat}(hr:eA k A):A.units+1<cLine:=Nat.lt_of_le_of_lt (Nat.add_le_add_left (by decide:1<=64) _) hr.units
section
variable {X:Cx}
theorem pv(i:Nat){x:Str}{pos:Pos}(hN:X.N[i]? =some x:=by rfl)(hv:Zfx x:=by first |exact Or.inl rfl|exact Or.inr (Or.inl rfl)|exact Or.inr (Or.inr rfl))(hd:(x==("__debug__":Str))=false:=by decide)
  (lB:(x==("__classdict__":Str))=false:=by decide):Zee (kR i):=aiq hN hv hd lB
end
theorem aF{A B:Prop}(h:B):if false=true then A else B:=by rw[ae eh];exact h
theorem aI{A B:Prop}(h:A):if true=true then A else B:=by rw[af rfl];exact h
def ah(H H':Hp):Prop:=∀b o,H b=some o->H' b=some o
section
variable {κ:Type}[DecidableEq κ]
theorem Eo:∀{l:List κ} {k:κ},l.Nodup->¬k∈l->(l++[k]).Nodup
 |[],k,_,_=>by simp
 |a::r,k,h,hk=>by
  obtain⟨h1,h2⟩:=df.mp h;show(a::(r++[k])).Nodup;refine df.mpr ⟨λm=>?_,Eo h2 λm=>hk (aJ.mpr (Or.inr m))⟩;rcases b8.mp m with q|q
  ·exact h1 q
  ·exact hk (aJ.mpr (Or.inl (bo.mp q).symm))
end
end L2
section
set_option maxRecDepth 100000
set_option maxHeartbeats 2000000
namespace L2
open PySem PySem.Spec PyProof.Rows
open PySem.W (WData Codec OpenSpec Well WellAll ReadsW ReadsAllW)
mutual
inductive Dw(K:PySem.W.Frag)(H:Hp):V->WData->Prop
 |ba:Dw K H .ba .none
 |bl (b:Bool):Dw K H (.bl b) (.bool b)
 |int (i:Int):Dw K H (.int i) (.int i)
 |str (x:Str):Dw K H (.str x) (.str x)
 |gr (b:Array UInt8):Dw K H (.gr b) (.bytes b.toList)
 |lst {a:Addr} {xs:List V} {ds:List WData}:ag K H a xs->ke K H xs ds->Dw K H (.ref a) (.list ds)
 |tup {a:Addr} {xs:List V} {ds:List WData}:bM K H a xs->ke K H xs ds->Dw K H (.ref a) (.tuple ds)
inductive ke(K:PySem.W.Frag)(H:Hp):Ze->Wt->Prop
 |nil:ke K H [] []
 |cons {v:V} {vs:List V} {d:WData} {ds:List WData}:Dw K H v d->ke K H vs ds->ke K H (v::vs) (d::ds)
end
theorem adG{K:PySem.W.Frag}{H:Hp}:∀ns:List Int,Zcs Zfs ZyC
 |[]=>.nil
 |n::r=>.cons Zd4 (adG r)
theorem ab7{K:PySem.W.Frag}{H:Hp}:∀(ns:ZK) (xs:Ze),Zcs xs ZyC->xs=ns.map V.int
 |[],xs,h=>by
  cases h
  rfl
 |n::r,xs,h=>by
  cases h with
  |cons h1 h2=>
   cases h1
   rw[ab7 r _ h2]<;>rfl
section
variable {P:Program}{w:World}{K:PySem.W.Frag}{H:Hp}{h:Heap}{R:PySem.W.WRecords}{cl:Str->Ws}
theorem ahj{a:Addr}{xs:Ze}(aC:Xq)(KX:V4)(q:YJ):∃(its:Zq) (o:Obj) (n:Nat),UZ/\h.get? a=some o/\o.cls=.type "list"/\o.data=VE n:=by
 rcases q with q|⟨o,its,n,e,hc,_,hd,_,hv⟩
 ·obtain⟨_,its,n,hv,e⟩:=(show Vg Yw from q.ok aC);exact⟨its,_,n,hv,e,rfl,rfl⟩
 ·exact Zsa
theorem ahi{a:Addr}{xs:Ze}(aC:Xq)(KX:V4)(q:VL):∃(its:Zq) (o:Obj) (n:Nat),UZ/\h.get? a=some o/\o.cls=.type "tuple"/\o.data=VE n:=by
 rcases q with q|⟨o,its,n,e,hc,hd,_,hv⟩
 ·obtain⟨_,its,hv,o,e,hc,n,hd⟩:=(show Vg Vj from q.ok aC);exact⟨its,o,n,hv,e,hc,hd⟩
 ·exact Zsa
mutual
theorem Dw.reads(aC:Xq)(KX:V4):∀(d:WData) (v:V) (u:Value),Dw K H v d->XS->∃as,ReadsW R cl h u d as
 | .none,_,_,x,r=>by
  cases x
  cases r
  exact⟨_,ReadsW.none⟩
 | .bool b,_,_,x,r=>by
  cases x
  cases r
  exact⟨_,ReadsW.bool b⟩
 | .int i,_,_,x,r=>by
  cases x
  ext A;exact⟨_,ReadsW.int i t⟩
 | .str s,_,_,x,r=>by
  cases x
  ext A;exact⟨_,ReadsW.str s t⟩
 | .bytes b,_,_,x,r=>by
  cases x
  ext A;exact⟨_,ReadsW.bytes _ t⟩
 | .list ds,_,_,x,r=>by
  cases x with
  |lst hs ha=>
   cases r
   obtain⟨its,o,n,rv,ho,hc,hd⟩:=ahj aC KX hs;obtain⟨as,hr⟩:=ZmT its ha rv;exact⟨_,ReadsW.list ho hc hd hr⟩
 | .tuple ds,_,_,x,r=>by
  cases x with
  |tup hs ha=>
   cases r
   obtain⟨its,o,n,rv,ho,hc,hd⟩:=ahi aC KX hs;obtain⟨as,hr⟩:=ZmT its ha rv;exact⟨_,ReadsW.tuple ho hc hd hr⟩
 | .float _,_,_,x,_=>by cases x
 | .dict _,_,_,x,_=>by cases x
 | .bytearray _,_,_,x,_=>by cases x
 | .set _,_,_,x,_=>by cases x
 | .frozenset _,_,_,x,_=>by cases x
 | .obj _ _,_,_,x,_=>by cases x
theorem Dw.readsAll(aC:Xq)(KX:V4):∀(ds:Wt) (vs:Ze) (us:Zq),Zcs vs ds->ZaH->∃as,ReadsAllW R cl h us ds as
 |[],_,_,x,r=>by
  cases x
  cases r
  exact⟨_,ReadsAllW.nil⟩
 |d::ds,_,_,x,r=>by
  cases x with
  |cons h1 h2=>
   cases r with
   |cons r1 r2=>
    obtain⟨as,q1⟩:=Dw.reads aC KX d _ _ h1 r1;obtain⟨bs,q2⟩:=ZmT _ h2 r2;exact⟨_,ReadsAllW.cons q1 q2⟩
end
end
mutual
def kg:WData->Bool
 | .none =>true
 | .bool _=>true
 | .int _=>true
 | .str _=>true
 | .bytes _=>true
 | .list xs=>lR xs
 | .tuple xs=>lR xs
 |_=>false
def lR:Wt->Bool
 |[]=>true
 |x::r=>kg x&&lR r
end
theorem aak{α:Type}{f:α->WData}(h:∀a,kg (f a)=true):∀l:List α,lR (l.map f)=true
 |[]=>rfl
 |x::r=>by show(kg (f x)&&lR (r.map f))=true;rw[h x,aak h r]<;>rfl
theorem rn:∀(c:Codec) (a:c.denote),kg (c.enc a)=true
 | .unit,_=>rfl
 | .bool,_=>rfl
 | .int _ _,_=>rfl
 | .nat _ _,_=>rfl
 | .u8,_=>rfl
 | .bytes _ _,_=>rfl
 | .text _ _ _ _,_=>rfl
 | .list _ _ c,a=>aak (λx=>rn c x) a
 | .pair c d,a=>by show(kg Zqy&&(kg (d.enc a.2)&&true))=true;rw[rn c a.1,rn d a.2]<;>rfl
 | .triple c d e,a=>by show(kg Zqy&&(kg (d.enc a.2.1)&&(kg (e.enc a.2.2)&&true)))=true;rw[rn c a.1,rn d a.2.1,rn e a.2.2]<;>rfl
 | .option c,none=>rfl
 | .option c,some x=>rn c x
theorem aag:∀(cs:List Codec) (a:Codec.denoteAll cs),lR (ZiY a)=true
 |[],_=>rfl
 |c::cs,a=>by show(kg Zqy&&lR (ZiY a.2))=true;rw[rn c a.1,aag cs a.2]<;>rfl
theorem HQ:∀{xs:Wt} {d:WData},d∈xs->d.weight<=WData.weightAll xs
 |[],d,h=>ZdW Zh
 |x::r,d,h=>by
  show d.weight<=x.weight+1+WData.weightAll r;rcases aJ.mp h with e|m
  ·rw[e];omega
  ·have z:=HQ m;omega
def toV:Value->V
 | .none =>.ba
 | .bool b=>WA
 | .int i _=>Xs
 | .str x _=>U0
 | .bytes b _=>.gr b
 | .ref a=>ZX
 |_=>.ba
def lK(A:Zy):Value->Prop
 | .none =>True
 | .bool _=>True
 | .int _ _=>True
 | .str _ _=>True
 | .bytes _ _=>True
 | .ref a=>a∈A
 |_=>False
theorem lK.mono{A B:Zy}(h:∀a∈A,a∈B):∀{u:Value},U4->lK B u:=λ{u} x=>by
 cases u with
 |ref a=>exact h a x
 |none=>trivial
 |bool b=>trivial
 |int i t=>trivial
 |str s t=>trivial
 |bytes b t=>trivial
 |_=>exact ZfN
theorem ahQ{A:Zy}{u:Value}(x:U4):RelV (toV u) u:=by
 cases u with
 |ref a=>rfl
 |none=>rfl
 |bool b=>rfl
 |int i t=>exact Vk
 |str s t=>exact Vk
 |bytes b t=>exact Vk
 |_=>exact ZfN
theorem qG{A:Zy}:∀{vs:Zq},(∀u∈vs,U4)->Vals ZbE vs
 |[],_=>.nil
 |u::r,h=>.cons (ahQ (h u (aY ..))) (qG λx hx=>h x ZaS)
def mI(h:Heap)(A:Zy)(a:Addr):Prop:=∃vs:List Value,vs.length<=sizeLine/\(∀u∈vs,U4)/\
 (h.get? a=some {cls:=Yg,data:=.seq vs.toArray}∨h.get? a=some {cls:=Xy,data:=.seq vs.toArray})
theorem mI.mono{h:Heap}{A B:Zy}{a:Addr}(k:∀a∈A,a∈B)(x:mI h A a):mI h B a:=by obtain⟨vs,h1,h2,h3⟩:=x;exact⟨vs,h1,λu hu=>(h2 u hu).mono k,h3⟩
theorem CF{P:Params}{h:Heap}:∀{vs:Zq} {ds:Wt},Zfv ds->vs.length=ds.length
 |_,_,.nil =>rfl
 |_,_,.cons _ b=>by show _+1=_+1;rw[CF b]
theorem P5{P:Params}{h:Heap}{v:Value}{ds:Wt}(x:Zj7 (.list ds)):∃(a:Addr) (vs:Zq),v=.ref a/\h.get? a=some {cls:=Yg,data:=.seq vs.toArray}/\Zfv ds:=by
 cases x with
 |list ho dB=>exact⟨_,_,rfl,ho,dB⟩
theorem P4{P:Params}{h:Heap}{v:Value}{ds:Wt}(x:Zj7 (.tuple ds)):∃(a:Addr) (vs:Zq),v=.ref a/\h.get? a=some {cls:=Xy,data:=.seq vs.toArray}/\Zfv ds:=by
 cases x with
 |tuple ho dB=>exact⟨_,_,rfl,ho,dB⟩
theorem P6{P:Params}{h:Heap}{us:Zq}{d:WData}{ds:Wt}(x:WellAll P h us (d::ds)):∃(v:Value) (vs:Zq),us=v::vs/\Zj7 d/\Zfv ds:=by
 cases x with
 |cons a b=>exact⟨_,_,rfl,a,b⟩
theorem abn{n:Nat}(h:n<=1048576):n<=sizeLine:=cq h Zk
section
variable {P:Params}{h:Heap}
mutual
theorem arY:∀(d:WData) (v:Value),Zj7 d->kg d=true->d.weight<=1048576->∃A:List Addr,lK A v/\∀a∈A,mI h A a
 | .none,_,x,_,_=>by
  cases x
  exact Zez
 | .bool b,_,x,_,_=>by
  cases x
  exact Zez
 | .int i,_,x,_,_=>by
  cases x
  exact Zez
 | .str s,_,x,_,_=>by
  cases x
  exact Zez
 | .bytes b,_,x,_,_=>by
  cases x
  exact Zez
 | .list ds,_,x,p,z=>by
  obtain⟨a,vs,rfl,ho,dB⟩:=P5 x;ext dr;obtain⟨A,h1,h2⟩:=F5 ds _ dB p λd hd=>cq (HQ hd) z2;have k:∀b∈A,b∈a::A:=λb hb=>Za1;refine Zwi;rcases aJ.mp hb with e|m
  ·rw[e];exact⟨vs,ZsR,λu hu=>(h1 u hu).mono k,.inl ho⟩
  ·exact(h2 b m).mono k
 | .tuple ds,_,x,p,z=>by
  obtain⟨a,vs,rfl,ho,dB⟩:=P4 x;ext dr;obtain⟨A,h1,h2⟩:=F5 ds _ dB p λd hd=>cq (HQ hd) z2;have k:∀b∈A,b∈a::A:=λb hb=>Za1;refine Zwi;rcases aJ.mp hb with e|m
  ·rw[e];exact⟨vs,ZsR,λu hu=>(h1 u hu).mono k,.inr ho⟩
  ·exact(h2 b m).mono k
 | .float _,_,_,p,_=>WH
 | .dict _,_,_,p,_=>WH
 | .bytearray _,_,_,p,_=>WH
 | .set _,_,_,p,_=>WH
 | .frozenset _,_,_,p,_=>WH
 | .obj _ _,_,_,p,_=>WH
theorem F5:∀(ds:Wt) (vs:Zq),Zfv ds->lR ds=true->(∀d∈ds,d.weight<=1048576)->∃A:List Addr,(∀u∈vs,U4)/\∀a∈A,mI h A a
 |[],_,x,_,_=>by
  cases x
  exact⟨[],λu m=>Zqt,λa m=>Zqt⟩
 |d::ds,_,x,p,z=>by
  obtain⟨v,vs,rfl,x1,x2⟩:=P6 x;have q:kg d=true/\lR ds=true:=ZvY;obtain⟨A,a1,a2⟩:=arY d v x1 q.1 (z d (aY ..));obtain⟨B,b1,b2⟩:=F5 ds vs x2 q.2 λe he=>z e (ZE he);have kA:∀b∈A,b∈A++B:=λb hb=>b8.mpr (.inl hb);have kB:∀b∈B,b∈A++B:=λb hb=>b8.mpr (.inr hb);refine⟨A++B,λu hu=>?_,λb hb=>?_⟩
  ·rcases aJ.mp hu with e|m
   ·rw[e];exact a1.mono kA
   ·exact(b1 u m).mono kB
  ·rcases b8.mp hb with m|m
   ·exact(a2 b m).mono kA
   ·exact(b2 b m).mono kB
end
end
def E6(o:Obj):ZaL:=match o.data with
 | .seq vs _=>if(o.cls==Value.type "list")=true then some (.bL o (.lst Zx8))else some (.bL o (.tup Zx8))
 |_=>none
def kM(K:PySem.W.Frag)(h:Heap)(A:Zy):Hp:=λb=>if b∈A then(if(K.lookup b).isNone =true then(h.get? b).bind E6 else none)else none
def aeP(H:Hp):Prop:=∀b,H b=none∨∃o u,H b=some ZaJ
theorem acy(vs:Zq):E6 {cls:=Yg,data:=.seq vs.toArray}=some (.bL {cls:=Yg,data:=.seq vs.toArray} (.lst ZbE)):=by show(if(Value.type "list"==Value.type "list")=true then some (HO.bL {cls:=Yg,data:=.seq vs.toArray} (.lst ZhG))else some (HO.bL {cls:=Yg,data:=.seq vs.toArray} (.tup ZhG)))=_;rw[af (sN _)]
theorem acx(vs:Zq):E6 {cls:=Xy,data:=.seq vs.toArray}=some (.bL {cls:=Xy,data:=.seq vs.toArray} (.tup ZbE)):=by show(if(Value.type "tuple"==Value.type "list")=true then some (HO.bL {cls:=Xy,data:=.seq vs.toArray} (.lst ZhG))else some (HO.bL {cls:=Xy,data:=.seq vs.toArray} (.tup ZhG)))=_;rw[ae Zk]
section
variable {P:Program}{w:World}{K:PySem.W.Frag}{h:Heap}{A:Zy}
theorem F4{b:Addr}{o:Obj}(hb:b∈A)(hk:K.lookup b=none)(e:Zo0):Vn b=E6 o:=by unfold kM;rw[af hb,hk,af (show(none:Option Obj).isNone =true from rfl),e]<;>rfl
theorem akx{b:Addr}{u:HO}(q:Vn b=some u):b∈A/\K.lookup b=none:=by
 unfold kM at q;by_cases hb:b∈A
 ·rw[af hb]at q;cases hk:K.lookup b with
  |none=>exact⟨hb,rfl⟩
  |some o=>
   rw[hk,ae Zh]at q;cases q
 ·rw[ae hb]at q;cases q
theorem BN(ar:Zbo){b:Addr}{u:HO}(q:Vn b=some u):K.lookup b=none/\∃vs:List Value,vs.length<=sizeLine/\(∀u∈vs,U4)/\
    ((h.get? b=some {cls:=Yg,data:=.seq vs.toArray}/\u=.bL {cls:=Yg,data:=.seq vs.toArray} (.lst ZbE))∨
     (h.get? b=some {cls:=.type "tuple",data:=.seq vs.toArray}/\u=.bL {cls:=.type "tuple",data:=.seq vs.toArray} (.tup (vs.map toV)))):=by
  obtain⟨hb,hk⟩:=akx q;obtain⟨vs,h1,h2,h3⟩:=ar b hb;refine⟨hk,vs,h1,h2,?_⟩;rcases h3 with e|e
  · rw[F4 hb hk e,acy]at q;exact .inl ⟨e,(bY q).symm⟩
  · rw[F4 hb hk e,acx]at q;exact .inr ⟨e,(bY q).symm⟩
theorem arW(ar:Zbo):aeP Vn:=λb=>by
 cases q:Vn b with
 |none=>exact .inl rfl
 |some u=>
  obtain⟨_,vs,_,_,⟨_,e⟩|⟨_,e⟩⟩:=BN ar q
  ·exact ZwK
  ·exact ZwK
theorem arX(ar:Zbo):Za6 Vn h:=λb u q=>by
 ext cw
 ·exact Zxx
 ·exact Zuf
theorem De{c c':Value}{vs us:Zq}(e:(some {cls:=c,data:=.seq vs.toArray}:Option Obj)=some {cls:=c',data:=.seq us.toArray}):c=c'/\vs=us:=by
 have e1:=bY e;have e2:c=c':=cb Obj.cls e1;have e3:Data.seq vs.toArray=Data.seq us.toArray:=cb Obj.data e1;injection e3 with e4
 refine⟨e2,?_⟩;have e5:=cb Array.toList e4;simpa using e5
theorem arV(KX:V4)(ar:Zbo){a:Addr}{vs:Zq}(ha:a∈A)(e:h.get? a=some {cls:=Yg,data:=.seq vs.toArray}):(∀u∈vs,U4)/\ag K Vn a ZbE:=by
 obtain⟨us,h1,h2,h3⟩:=ar a ha;have hu:us=vs:=by
  rcases h3 with q|q
  ·rw[e]at q;exact(De q).2.symm
  ·rw[e]at q;exact Ztp
 subst hu;refine⟨h2,?_⟩;cases hk:K.lookup a with
 |none=>exact .inl (.inr ⟨_,by rw[F4 ha hk e,acy]⟩)
 |some o=>
  ext cR;exact .inr ⟨_,us.toArray,_,hk,rfl,rfl,rfl,by rw[dR];exact h1,Zyx⟩
theorem arU(KX:V4)(ar:Zbo){a:Addr}{vs:Zq}(ha:a∈A)(e:h.get? a=some {cls:=Xy,data:=.seq vs.toArray}):(∀u∈vs,U4)/\bM K Vn a ZbE:=by
 obtain⟨us,h1,h2,h3⟩:=ar a ha;have hu:us=vs:=by
  rcases h3 with q|q
  ·rw[e]at q;exact Ztp
  ·rw[e]at q;exact(De q).2.symm
 subst hu;refine⟨h2,?_⟩;cases hk:K.lookup a with
 |none=>exact .inl (.inr ⟨_,by rw[F4 ha hk e,acx]⟩)
 |some o=>
  ext cR;exact .inr ⟨_,us.toArray,_,hk,rfl,rfl,by rw[dR];exact h1,Zyx⟩
mutual
theorem aqe{Pm:Params}(KX:V4)(ar:Zbo):∀(d:WData) (v:Value),Well Pm h v d->kg d=true->lK A v->Dw K Vn (toV v) d
 | .none,_,x,_,_=>by
  cases x
  exact .ba
 | .bool b,_,x,_,_=>by
  cases x
  exact WA
 | .int i,_,x,_,_=>by
  cases x
  exact Xs
 | .str s,_,x,_,_=>by
  cases x
  exact .str s
 | .bytes b,_,x,_,_=>by
  cases x
  have z:=Dw.gr (K:=K) (H:=Vn) b.toArray;exact z
 | .list ds,_,x,p,hu=>by obtain⟨a,vs,rfl,ho,dB⟩:=P5 x;obtain⟨h2,hs⟩:=arV KX ar hu ho;exact .lst hs (ZjS _ dB p h2)
 | .tuple ds,_,x,p,hu=>by obtain⟨a,vs,rfl,ho,dB⟩:=P4 x;obtain⟨h2,hs⟩:=arU KX ar hu ho;exact .tup hs (ZjS _ dB p h2)
 | .float _,_,_,p,_=>WH
 | .dict _,_,_,p,_=>WH
 | .bytearray _,_,_,p,_=>WH
 | .set _,_,_,p,_=>WH
 | .frozenset _,_,_,p,_=>WH
 | .obj _ _,_,_,p,_=>WH
theorem FR{Pm:Params}(KX:V4)(ar:Zbo):∀(ds:Wt) (vs:Zq),WellAll Pm h vs ds->lR ds=true->(∀u∈vs,U4)->ke K Vn ZbE ds
 |[],_,x,_,_=>by
  cases x
  exact .nil
 |d::ds,_,x,p,hu=>by obtain⟨v,vs,rfl,x1,x2⟩:=P6 x;have q:kg d=true/\lR ds=true:=ZvY;exact .cons (aqe KX ar d v x1 q.1 (hu _ (aY ..))) (ZjS vs x2 q.2 λu m=>hu u (ZE m))
end
end
theorem alC{ds:Wt}(h:WData.layableAll ds=true):∀d∈ds,d.weight<=1048576:=λd hd=>
 (PySem.W.layableW_iff.mp (dh.mp h d hd)).2.2
theorem adC:∀(cs:List Codec) (a:Codec.denoteAll cs),(ZiY a).length =cs.length
 |[],_=>rfl
 |c::cs,a=>by show(ZiY a.2).length +1=cs.length+1;rw[adC cs a.2]
end L2
end
set_option maxRecDepth 100000
set_option maxHeartbeats 2000000
namespace Br
section
open PySem PySem.Spec PyProof.Rows L2
open Vbwbal (Plan Bytes Choice)
section
def top(i:Nat):Stmt:=PySem.Challenge.pw_batchrecord_s01_answers.main.body.getD i Zh5
theorem cU:bootBuiltins "len"=some ZiF:=by decide+kernel
theorem BM:bootBuiltins "any"=some Zn1:=by decide+kernel
theorem vQ:bootBuiltins "all"=some Zn0:=by decide+kernel
theorem arM:bootBuiltins "ord"=some (.builtin "ord"):=by decide+kernel
theorem arI:bootBuiltins "sum"=some ZiG:=by decide+kernel
theorem aeq:bootBuiltins "min"=some Zn2:=by decide+kernel
theorem arN:bootBuiltins "max"=some (.builtin "max"):=by decide+kernel
theorem arK:bootBuiltins "sorted"=some Znb:=by decide+kernel
theorem aer:bootBuiltins "list"=some Yg:=by decide+kernel
theorem arP:bootBuiltins "dict"=some Zax:=by decide+kernel
theorem arL:bootBuiltins "set"=some ZfC:=by decide+kernel
theorem arO:bootBuiltins "int"=some (.type "int"):=by decide+kernel
theorem arJ:bootBuiltins "str"=some (.type "str"):=by decide+kernel
structure Got(P:Program)(w:World)(K:PySem.W.Frag)(mg:Zx)(base:Heap)(x:Str)(ps:Zc)(k:Nat)(sp:Sp):Prop where
 ex:∃(f:Addr) (fd:FuncData),ZiP/\mg x=some Yo/\Zbi Yo=true/\UE ps []
section
variable {X:Cx}
theorem az{x:Str}{ps:Zc}{k j:Nat}{sp:Sp}{e:Expr}{es:Ya}{t:TA}{p pos:Pos}(G:Got X.prog X.w X.K X.mg X.base x ps k sp)(hr:eA j X.A)(hg:X1)(ha:VH t)(hk:k<=j:=by first |decide|omega)
  (j5:(x==("__debug__":Str))=false:=by decide) (he:Va X.env=(false,Yv)::VN X.env:=by rfl) (cC:(Xa WJ).any Zg=false:=by rfl):
  PE X Zcz (qK sp [] E0 t):=by
 obtain⟨f,fd,F,hm,LV,hb⟩:=G.ex;exact aiC F ZpQ hg hm LV hb .nil D8 ha j5 he cC
structure nM(P:Program)(w:World)(K:PySem.W.Frag)(mg:Zx)(base:Heap)(x:Str)(C:Addr)(ps:Zc)(k:Nat)(sp:Sp):Prop where
 ex:∃(f:Addr) (fd:FuncData),Mk K C f/\ZiP/\mg x=some WY/\UE ps []
theorem rq{x:Str}{C:Addr}{ps:Zc}{k j:Nat}{sp:Sp}{e:Expr}{es:Ya}{t:TA}{p pos:Pos}(G:ZsF)(hr:eA j X.A)(hg:X1)(ha:VH t)(hk:k+1<=j:=by first |decide|omega)
  (j5:(x==("__debug__":Str))=false:=by decide) (he:Va X.env=(false,Yv)::VN X.env:=by rfl) (cC:(Xa WJ).any Zg=false:=by rfl):
  PE X Zcz (nS C sp [] E0 t):=by
 obtain⟨f,fd,M,F,hm,hb⟩:=G.ex;exact aiv M F ZpQ hg hm hb .nil D8 ha j5 he cC
theorem aaq{x:Str}{C:Addr}{ps:Zc}{k j:Nat}{sp:Sp}{p pos:Pos}(G:ZsF)(hr:eA j X.A)(hg:X1)(hk:k+1<=j:=by first |decide|omega)
  (j5:(x==("__debug__":Str))=false:=by decide):
  PE X Zuj (nS C sp [] E0 kS):=by
 obtain⟨f,fd,M,F,hm,hb⟩:=G.ex;exact aiu M F ZpQ hg hm hb .nil D8 j5
def cJ(mg:Zx)(x:Str)(i:Int):Prop:=∃t,mg x=some Zcd
def Po(mg:Zx)(x:Str)(z:Str):Prop:=∃t,mg x=some (Zd5 t)
theorem bE{x:Str}{i:Int}{pos:Pos}(h:cJ X.mg x i)(hg:X1)(hd:(x==("__debug__":Str))=false:=by decide):Zee (tC Xs):=by obtain⟨t,e⟩:=h;exact Kl hg e Vk hd
theorem rA{x:Str}{z:Str}{pos:Pos}(h:Po X.mg x z)(hg:X1)(hd:(x==("__debug__":Str))=false:=by decide):Zee (tC Zd5):=by obtain⟨t,e⟩:=h;exact Kl hg e Vk hd
theorem D0{x:Str}{a:Addr}{pos:Pos}(h:X.mg x=some ZX)(hg:X1)(hd:(x==("__debug__":Str))=false:=by decide):Zee (tC ZX):=
 Kl hg h rfl hd
theorem bq(i:Nat){x:Str}{e:Expr}{te:TE}{pos pos':Pos}(hN:X.N.Nodup)(he:XT)(hi:X.N[i]? =some x:=by rfl)(hx:Zam:=by first |exact Or.inl rfl|exact Or.inr rfl)
  (hs:Zst X.env=pure false:=by rfl) (hf:X.fn x=true∨X.env.scope.names.lookup x=some .local :=by first |exact .inl rfl|exact .inr rfl):
  PS X Zt3 (mN te Zcq):=ah8 hN hi hx he hs hf
theorem T_(i:Nat){x:Str}{e:Expr}{te:TE}{op:Operator}{ti:vT}{pos pos':Pos}(hN:X.N.Nodup)(he:XT)(ho:Cb X op ti)(hi:X.N[i]? =some x:=by rfl)(hx:Zam:=by first |exact Or.inl rfl|exact Or.inr rfl)
  (hf:X.fn x=true∨X.env.scope.names.lookup x=some .local :=by first |exact .inl rfl|exact .inr rfl):PS X ZsX (qN i te ti):=aib hN hi hx he ho hf
theorem aZ(i:Nat){x:Str}{pos:Pos}(hN:X.N.Nodup)(hi:X.N[i]? =some x:=by rfl)(hx:Zam:=by first |exact Or.inl rfl|exact Or.inr rfl)
  (hf:X.fn x=true∨X.env.scope.names.lookup x=some .local :=by first |exact .inl rfl|exact .inr rfl):PG X Zhv Zcq:=aio hN hi hx hf
theorem pC(i:Nat){y:Str}{py:Pos}{elt tg iter:Expr}{ifs:Ya}{scope:Scope}{own:Zau}{pos CW:Pos}{wi:TI}{g:TG}{tt:TT}{te:TE}(hc:Xz)(hN:X.N.Nodup)(hi:Zfl)(ok:ZeJ)
  (hg:Zhe) (ht:Zhd)
  (he:Zhc) (hy:X.N[i]? =some y:=by rfl) (jt:X.env.scope.names.lookup y=some .local :=by rfl)
  (hk:X.env.scope.kind=.function :=by rfl) (hl:(py.line==pos.line)=true:=by rfl) (ha:(scope.names.any λ(n,k)=>n==y&&(k==.local ||k==.cell))=false:=by decide+kernel)
  (hs:∀x,ZeK x=pure x:=by intro _;rfl):
  PS X Zui (mN ZeI Zcq):=
 ah7 hc hN hy jt (ag5 hk jt hl ha) hi ok hg ht he hs
end
section
variable {X:Cx}{K:PySem.W.Frag}
theorem i4{es:Ya}{k:Nat}{t:sQ}{pos:Pos}(n:Nat)(K:PySem.W.Frag)(hc:Xz)(h:Cc X es t)(hK:X.K=K:=by rfl)
  (hn:(ZfG X.env).length =n:=by rfl) (aT:(ZfG X.env).findIdx? Zg=none:=by rfl):Zxe (sG K n t):=by
 subst hK;exact ain hc h hn aT
theorem aD{e:Expr}{ta:TE}{f:Str}{pos:Pos}(K:PySem.W.Frag)(he:Zu e ta)(hb:ZsK)(hK:X.K=K:=by rfl):Zu Zm1 (qI K ta f):=by subst hK;exact aix he hb
theorem iY{o value:Expr}{ta tv:TE}{f:Str}{pos pos':Pos}(K:PySem.W.Frag)(ha:Zu o ta)(hv:ZjE)(hs:Zk7)(hK:X.K=K:=by rfl):PS X ZlG (mQ K ta tv f):=by subst hK;exact ah9 ha hv hs
theorem bF(K:PySem.W.Frag)(hK:X.K=K:=by rfl):zq X (qZ K):=by subst hK;exact alQ
theorem uW(K:PySem.W.Frag)(hK:X.K=K:=by rfl):zq X (qY K):=by subst hK;exact alP
theorem mO(K:PySem.W.Frag)(hK:X.K=K:=by rfl):Ox X (qW K):=by subst hK;exact ahr
theorem kj(K:PySem.W.Frag)(hK:X.K=K:=by rfl):Zif (q_ K false):=by subst hK;exact aiS
theorem Ao(K:PySem.W.Frag)(hK:X.K=K:=by rfl):ZmI (q_ K true):=by subst hK;exact aiO
theorem BF(K:PySem.W.Frag)(hc:Xz)(hK:X.K=K:=by rfl):YR Zn1 (rg K):=by subst hK;exact aqv hc
theorem vJ(K:PySem.W.Frag)(hc:Xz)(hK:X.K=K:=by rfl):YR Zn0 (rh K):=by subst hK;exact aqw hc
theorem c6(K:PySem.W.Frag)(hK:X.K=K:=by rfl):YR ZiF (λxs H Q=>∃x n,xs=[x]/\oW K x H n/\Q Zd4 H):=by subst hK;exact arn
theorem arl(K:PySem.W.Frag)(hK:X.K=K:=by rfl):YR Yg (λxs H Q=>∃p ys,xs=[.ref p]/\(XD p ys∨Vv p ys)/\∀l,H l=none->ZY (WE ZdE)):=by subst hK;exact arj
theorem dq{T:String}{name:Str}{id:String}{r:Uh}{o e:Expr}{es:Ya}{to:TE}{t:TA}{apos gq:Pos}(K:PySem.W.Frag)(pa:PlainAttrs T)(slot:Slot T name id)(rY:Zhg)(hm:ZkN)(ho:UT)(ha:VH t)
  (hK:X.K=K:=by rfl) (lC:Zi9 Us=Za7 X.env:=by rfl)
  (Bb:((ZbX Zqm).all ZqO&&(backToKw gq Zh0).all ZnX
   &&decide ((e::es).length +([]:List Keyword).length +(if([]:List Keyword).isEmpty then 0 else 1)<30))=true:=by rfl)
  (lz:(apos.endLine==gq.line)=true:=by rfl) (hs:Va X.env=(false,Yv)::VN X.env:=by rfl) (LB:(ZbX WJ).any Zg=false:=by rfl):
  PE X ZwI (qM K T r to t):=by
 subst hK;exact aiD pa slot rY hm ho ha lC Bb lz hs LB
theorem Ep(K:PySem.W.Frag)(hK:X.K=K:=by rfl):oS X "list.index" (J8 K):=by subst hK;exact akY
theorem cf{tg l:Expr}{tl:TE}(K:PySem.W.Frag)(hl:Zu l tl)(hK:X.K=K:=by rfl):Zcb l (rV K tl):=by subst hK;exact aik hl
theorem aii{tg l:Expr}{tl:TE}(K:PySem.W.Frag)(hl:Zu l tl)(hK:X.K=K:=by rfl):Zcb l (rT K tl):=by subst hK;exact aij hl
theorem Ak{e:Expr}{ta:TA}{p pos fQ:Pos}{elts:Ya}{kk:Nat}(K:PySem.W.Frag)(hg:Zou)(hm:Zm4)(ha:PA X [e] ta)(hK:X.K=K:=by rfl)(hs:starEach [e] X.env=[(false,Yv)]:=by rfl):
  PI X VC Zsn (rW K ta):=by
 subst hK;exact aim hg hm ha hs
def tE(K:PySem.W.Frag)(ta:TE):TT:=fun σ H Q=>Xb H λx H'=>∃k,yY K x H' k/\Q k H'
theorem ck{a:Expr}{ta:TE}(K:PySem.W.Frag)(ha:Wg)(he:Zrb)(hK:X.K=K:=by rfl):PT X a (tE K ta):=by subst hK;exact ah4 ha he
end
def nat(n:Nat):V:=.int (n:Int)
theorem uH{a b:Nat}:(nat a=nat b)=(a=b):=by unfold nat;simp only[V.int.injEq,Int.ofNat_inj]
theorem lY{t:Nat}{i:Int}:(nat t=V.int i)=((t:Int)=i):=by unfold nat;simp only[V.int.injEq]
theorem xO{t:Nat}{i:Int}:(V.int i=nat t)=(i=(t:Int)):=by unfold nat;simp only[V.int.injEq]
theorem yM(t:Nat):V.int (t:Int)=nat t:=rfl
theorem fold_succ(t:Nat):V.int ((t:Int)+1)=nat (t+1):=rfl
def natAt(σ:L2.St)(i:Nat):Nat:=match σ[i]? with
 |some (some (.int z))=>z.toNat
 |_=>0
theorem uc{a b:Nat}:qR (nat a) (nat b)=true:=rfl
theorem w9{a:Nat}{i:Int}:qR (nat a) Xs=true:=rfl
theorem w_{a i:Int}:qR (.int a) Xs=true:=rfl
theorem w8{a b:Str}:qR (.str a) (.str b)=true:=rfl
theorem cQ{K:PySem.W.Frag}{H:Hp}{p:Addr}{xs:Ze}(h:Zqg):CI K "list" Z6 H:=.inl ⟨rfl,_,ZaV⟩
def nats(ns:Za):Ze:=ns.map nat
theorem bA(ns:Za):(nats ns).length =ns.length:=X3
theorem KC(ns:Za)(n:Nat):nats (ns++[n])=nats ns++[nat n]:=by unfold nats;rw[cA];rfl
theorem lj(a b:Za):nats Zek=nats a++nats b:=cA
theorem KG(a:Nat)(b:Za):nats (a::b)=nat a::nats b:=rfl
theorem KD:nats []=[]:=rfl
theorem akT{ns:Za}{i n:Nat}(h:ns[i]? =some n):(nats ns)[i]? =some (nat n):=by unfold nats;rw[cx,h];rfl
theorem aaW(ns:Za):(nats ns).all il=true:=by unfold nats;rw[mC];exact dh.mpr λ_ _=>rfl
theorem acd(x:Nat)(ns:Za):m8 XZ (nats ns)=ns.contains x:=by
 unfold m8 nats;rw[wq]
 induction ns with
 |nil=>rfl
 |cons a r ih=>
  rw[ka,Hh,ih];show(((a:Int)==(x:Int))||_)=((x==a)||_);congr 1;by_cases h:a=x
  ·subst h;simp
  ·have h1:((a:Int)==(x:Int))=false:=Zxo;have h2:(x==a)=false:=ip.mpr (λq=>h q.symm);rw[h1,h2]
theorem nZ{K:PySem.W.Frag}{H:Hp}{q:Addr}{R:Za}{x:Nat}{Q:VK}(h:H q=some Zor)(hQ:Q (.bl (R.contains x)) H):q_ K false XZ XR H Q:=
 ⟨q,_,rfl,.inl ZaV,rfl,aaW _,by rw[acd];exact hQ⟩
theorem TU{K:PySem.W.Frag}{H:Hp}{q:Addr}{R:Za}{x:Nat}{Q:VK}(h:H q=some Zor)(hQ:Q (.bl (!R.contains x)) H):q_ K true XZ XR H Q:=
 ⟨q,_,rfl,.inl ZaV,rfl,aaW _,by rw[acd];exact hQ⟩
def aE(b:Bytes):V:=.str ⟨b.toArray⟩
theorem ahd{a b:Bytes}:(aE a=aE b)=(a=b):=by unfold aE;simp only[V.str.injEq,Str.mk.injEq];exact Zk8
theorem ua{a b:Nat}:((⟨#[a]⟩:Str)=⟨#[b]⟩)=(a=b):=by simp only[Str.mk.injEq];exact Zk8
theorem str_inj{a b:Bytes}:((⟨a.toArray⟩:Str)=⟨b.toArray⟩)=(a=b):=by simp only[Str.mk.injEq];exact Zk8
def sz:sizeLine=16777216:=rfl
theorem gN{α β:Type}{F:Uu}:∀{l:ZN} {m:Wz} {i:Nat} {a:α},Zce->l[i]? =some a->∃b,m[i]? =some b/\F a b
 |_,_,i,_,.nil,h=>by simp at h
 |_,_,0,_,.cons h t,e=>by have e':=bY e;subst e';exact Zdm
 |_,_,i+1,_,.cons h t,e=>gN (i:=i) t e
theorem Al{α β:Type}{F:Uu}:∀{l:ZN} {m:Wz} {i:Nat} {b:β},Zce->m[i]? =some b->∃a,l[i]? =some a/\F a b
 |_,_,i,_,.nil,h=>by simp at h
 |_,_,0,_,.cons h t,e=>by have e':=bY e;subst e';exact Zdm
 |_,_,i+1,_,.cons h t,e=>Al (i:=i) t e
theorem du{α β:Type}{F:Uu}:∀{l:ZN} {m:Wz},Zce->l.length=m.length
 |_,_,.nil =>rfl
 |_,_,.cons h t=>cb (· +1) (du t)
theorem gA{α β:Type}{F G:Uu}(f:∀a b,F a b->G a b):∀{l:ZN} {m:Wz},Zce->ZgY l m
 |_,_,.nil =>.nil
 |_,_,.cons h t=>.cons (f _ _ h) (gA f t)
theorem dA{α:Type}:∀{l:ZN} {i:Nat} {x:α},l[i]? =some x->l.take XG=l.take i++[x]
 |[],i,x,h=>by simp at h
 |a::l,0,x,h=>by have e:a=x:=bY h;subst e;rfl
 |a::l,i+1,x,h=>by have ih:=dA (l:=l) (i:=i) (x:=x) h;show a::l.take XG=a::l.take i++[x];rw[ih];rfl
theorem get_map{α β:Type}{f:α->β}{l:ZN}{i:Nat}{y:β}(h:(l.map f)[i]? =some y):∃x,l[i]? =some x/\y=f x:=by
 rw[cx]at h;cases e:l[i]? with
 |none=>
  rw[e]at h;cases h
 |some x=>
  rw[e]at h;exact⟨x,rfl,(bY h).symm⟩
def NT:HO->Prop
 | .b9 _=>False
 |_=>True
def rP:Str:="can_fill_parts.<locals>.<lambda>"
def BH(c:Addr):HO:=.ext λh=>h.CodeRec Zb0 rP
def Tab(H:Hp)(P:Addr):Prop:=∃ps,H P=some ZgO/\PySem.TriplesOk ps.toList/\∀pos cv,ZpP ps.toList=some cv->∃c,cv=.ref c/\H c=some (BH c)
structure ah(H H':Hp):Prop where
 keep:∀b o,NT o->H b=some o->H' b=some o
 b9:∀b ps,H b=some ZgO->∃iz,H' b=some ZdK
 tab:∀P,Vy P->Tab H' P
theorem ah.at{H H':Hp}(s:Zd){b:Addr}{o:HO}(h:H b=some o)(n:NT o:=by exact trivial):H' b=some o:=ZbR n h
theorem ah.refl(H:Hp):Z8 H:=⟨λ_ _ _ h=>h,λ_ ps h=>⟨ps,h⟩,λ_ h=>h⟩
theorem ah.trans{H H1 H2:Hp}(a:Zcn)(b:YH H2):Z8 H2:=
 ⟨λc o n h=>b.keep c o n (a.keep c o n h),λc ps h=>let⟨p1,h1⟩:=a.b9 c ps h;b.b9 c p1 h1,λP h=>b.tab P (a.tab P h)⟩
theorem ah.free{H H':Hp}(e:Zd){l:Addr}(h:H' l=Option.none):H l=Option.none:=by
 cases q:H l with
 |none=>rfl
 |some o=>
  exfalso;cases o with
  |b9 ps=>
   ext cO
  |_=>
   have q':=e.at q;rw[q']at h;cases h
theorem ah.seq{K:PySem.W.Frag}{H H':Hp}{a:Addr}{xs:Ze}(e:Zd)(h:YJ):ag K H' a xs:=by
 rcases h with(h|⟨o,h⟩)|h
 ·exact .inl (.inl (e.at h))
 ·exact .inl (.inr ⟨o,e.at h⟩)
 ·exact Vq
theorem ah.all{H H':Hp}(k:∀b o,H b=some o->H' b=some o):Zd:=
 ⟨λb o _ h=>k b o h,λb ps h=>⟨ps,k b _ h⟩,λP ⟨ps,h1,h2,h3⟩=>⟨ps,W6 h1,h2,λpos cv e=>let⟨c,e1,e2⟩:=Zdv;⟨c,e1,W6 e2⟩⟩⟩
def NX(x:ZaL):Prop:=∀φ,x≠some (.ext φ)
theorem rG{x:ZaL}(h:x=none):NX x:=fun φ e=>by rw[h]at e;cases e
theorem gf{x:ZaL}{xs:Ze}(h:x=some Yw):NX x:=fun φ e=>by rw[h]at e;cases e
theorem Ej{x:ZaL}{xs:Yb}(h:x=some (.dK xs)):NX x:=fun φ e=>by rw[h]at e;cases e
theorem akz{x:ZaL}{C dx:Addr}{fs:Y6}(h:x=some Zbn):NX x:=fun φ e=>by rw[h]at e;cases e
theorem atO{x:ZaL}{o:Obj}{u:HO}(h:x=some ZaJ):NX x:=fun φ e=>by rw[h]at e;cases e
theorem bV{H H1:Hp}{l:Addr}{o:HO}(s:Zcn)(n:H l=none)(nx:NX (H1 l):=by first |exact gf (by assumption)|exact Ej (by assumption)|exact rG (by assumption)|exact akz (by assumption)|exact gf au|exact Ej au):Z8 (Yr l o):=by
 refine⟨λb u t e=>?_,λb ps e=>?_,λP h=>?_⟩
 ·rw[ax (cg e n)];exact s.keep b u t e
 ·rw[ax (cg e n)];exact ZgL e
 ·ext cq;refine⟨ps,by rw[ax (cg h0 n)];exact h1,h2,λpos cv e=>?_⟩;ext bX
theorem a0{H:Hp}{l:Addr}{o:HO}(n:H l=none):Z8 (WE o):=bV ZfX n (rG n)
structure SameBut(n:Addr)(H H':Hp):Prop where
 keep:∀b o,b≠n->NT o->H b=some o->H' b=some o
 b9:∀b ps,H b=some ZgO->∃iz,H' b=some ZdK
 tab:∀P,Vy P->Tab H' P
theorem SameBut.at{n:Addr}{H H':Hp}(s:WW H H'){b:Addr}{o:HO}(hb:b≠n)(h:H b=some o)(t:NT o:=by exact trivial):H' b=some o:=ZbR hb t h
theorem BR(n:Addr)(H:Hp):WW H H:=⟨λ_ _ _ _ h=>h,λ_ ps h=>⟨ps,h⟩,λ_ h=>h⟩
theorem SameBut.same{n:Addr}{H H1 H2:Hp}(a:WW H H1)(b:YH H2):WW H H2:=
 ⟨λc o hc t h=>b.keep c o t (a.keep c o hc t h),λc ps h=>let⟨p1,h1⟩:=a.b9 c ps h;b.b9 c p1 h1,λP h=>b.tab P (a.tab P h)⟩
theorem SameBut.put{n:Addr}{H H1:Hp}{o o1:HO}(a:WW H H1)(h:H1 n=some o1)(t:NT o1:=by exact trivial)(x:∀φ,o1≠.ext φ:=by intro φ e;cases e):WW H (Yr n o):=by
 refine⟨λc u hc t h=>by rw[ax hc];exact a.keep c u hc t h,λc ps hc=>?_,λP hP=>?_⟩
 ·obtain⟨p1,h1⟩:=a.b9 c ps hc;refine⟨p1,?_⟩;rw[ax λq=>by
   rw[q,h]at h1;cases h1
   exact t]
  exact h1
 ·obtain⟨ps,h1,h2,h3⟩:=a.tab P hP;refine⟨ps,?_,h2,λpos cv e=>?_⟩
  ·rw[ax λq=>by
    rw[q,h]at h1;cases h1
    exact t]
   exact h1
  ·obtain⟨c,e1,e2⟩:=Zdv;refine⟨c,e1,?_⟩;rw[ax λq=>by
    rw[q,h]at e2;cases e2
    exact x _ rfl]
   exact e2
theorem IS{H:Hp}{d:Addr}{u:HO}{od:Obj}(h:Zgi)(t:NT u:=by exact trivial)(x:∀φ,u≠.ext φ:=by intro φ e;cases e):ZkD H ZfV:=(BR d H).put h t x
theorem SameBut.unlock{H H':Hp}{d:Addr}{u:HO}{od:Obj}(s:ZkD H H')(h:Zgi)(h':H' d=some Uv):Z8 ZdC:=by
 have p:=s.put (o:=u) h' trivial (fun φ e=>ZbA);refine⟨λb o t e=>?_,p.b9,p.tab⟩;by_cases hb:b=d
 ·subst hb;rw[h]at e;cases e
  exact au
 ·exact p.keep b o hb t e
def g8(H:Hp)(a:Addr)(ps:ZV):Prop:=
 ∃rs:List Addr,H a=some WR/\Zsp ps
theorem g8.same{H H':Hp}{a:Addr}{ps:ZV}(s:Zd)(h:U3 ps):g8 H' a ps:=by obtain⟨rs,h1,h2⟩:=h;exact ZtW
def fN(H:Hp)(a:Addr)(ns:Yq):Prop:=
 ∃rs:List Addr,H a=some WR/\Zhf ns
theorem fN.same{H H':Hp}{a:Addr}{ps:Yq}(s:Zd)(h:Za8 ps):fN H' a ps:=by obtain⟨rs,h1,h2⟩:=h;exact ZtW
structure Ad where
 plan:Addr
 record:Addr
 j9:Addr
 call:Addr
 entry:Addr
 part:Addr
 lT:Addr
 pI:Addr
 Eg:Addr
 tab:Addr
structure aW where
 dx:Addr
 r:Addr
 p:Addr
 s:Addr
 pr:Addr
 sr:Addr
 m:Addr
 d:Addr
 a:Addr
 u:Addr
 l:Addr
def aW.aH(i:aW):Zy:=[i.r,i.p,i.s,i.pr,i.sr,i.m,i.a,i.u,i.l]
def mU(i:aW):Y6:=[("roles",.ref i.r),("persons",.ref i.p),("steps",.ref i.s),("person_roles",.ref i.pr),("step_roles",.ref i.sr),("mosts",.ref i.m),("pairs",.ref i.d)]
def xr(i:aW):Yb:=[(.inr "after",.ref i.a),(.inr "unlike",.ref i.u),(.inr "alike",.ref i.l)]
structure dw(C:Addr)(H:Hp)(p:Addr)(i:aW)(P:Plan):Prop where
 ins:H p=some (Zca i.dx (mU i))
 roles:H i.r=some ZeY
 persons:H i.p=some (.lst Zhy)
 steps:H i.s=some (.lst ZlY)
 eF:H i.m=some (.lst ZlJ)
 pairs:H i.d=some ZpA
 pr:fN H i.pr Zux
 sr:fN H i.sr Zu8
 after:g8 H i.a P.after
 unlike:g8 H i.u P.unlike
 alike:g8 H i.l P.alike
theorem dw.same{C:Addr}{H H':Hp}{p:Addr}{i:aW}{P:Plan}(s:Zd)(h:ZjH):Zjn:=
 ⟨s.at h.ins,s.at h.roles,s.at h.persons,s.at h.steps,s.at h.eF,s.at h.pairs,h.pr.same s,h.sr.same s,h.after.same s,h.unlike.same s,h.alike.same s⟩
theorem n0(i:aW):(mU i).lookup ("roles":Str)=some (V.ref i.r):=rfl
theorem k_(i:aW):(mU i).lookup ("persons":Str)=some (V.ref i.p):=rfl
theorem k0(i:aW):(mU i).lookup ("steps":Str)=some (V.ref i.s):=rfl
theorem DY(i:aW):(mU i).lookup ("person_roles":Str)=some (V.ref i.pr):=rfl
theorem DX(i:aW):(mU i).lookup ("step_roles":Str)=some (V.ref i.sr):=rfl
theorem Af(i:aW):(mU i).lookup ("mosts":Str)=some (V.ref i.m):=rfl
theorem n8(i:aW):(mU i).lookup ("pairs":Str)=some (V.ref i.d):=rfl
theorem atL(i:aW):eO (xr i) (Sum.inr ("after":Str))=some (V.ref i.a):=rfl
theorem atH(i:aW):eO (xr i) (Sum.inr ("unlike":Str))=some (V.ref i.u):=rfl
theorem atJ(i:aW):eO (xr i) (Sum.inr ("alike":Str))=some (V.ref i.l):=rfl
structure Wf(P:Plan):Prop where
 roles:P.roles.length<=8
 persons:P.persons.length<=7
 steps:P.steps.length<=7
 after:P.after.length<=12
 unlike:P.unlike.length<=12
 alike:P.alike.length<=12
 gd:∀y,y∈P.after∨y∈P.unlike∨y∈P.alike->y.1<P.steps.length/\y.2<P.steps.length
 ne:∀y,y∈P.after∨y∈P.unlike∨y∈P.alike->y.1≠y.2
 eF:∀x∈P.persons,x.most<=99
 mT:∀x∈P.persons,x.roles.length<=8
 qQ:∀x∈P.steps,x.roles.length<=8
 rj:∀x∈P.persons,∀r∈x.roles,r<P.roles.length
 wW:∀x∈P.steps,∀r∈x.roles,r<P.roles.length
 uk:∀n∈P.roles,n.length<=12
 pF:∀x∈P.persons,x.name.length<=12
 tZ:∀x∈P.steps,x.name.length<=12
 xm:(P.persons.map λx=>x.name).Nodup
structure bC where
 dx:Addr
 p:Addr
 ab:Addr
 en:Addr
 sg:Addr
def mR(i:bC):Y6:=[("plan",.ref i.p),("absent",.ref i.ab),("entries",.ref i.en),("signers",.ref i.sg)]
theorem lQ(i:bC):(mR i).lookup ("plan":Str)=some (V.ref i.p):=rfl
theorem Ab(i:bC):(mR i).lookup ("absent":Str)=some (V.ref i.ab):=rfl
theorem pz(i:bC):(mR i).lookup ("entries":Str)=some (V.ref i.en):=rfl
theorem xj(i:bC):(mR i).lookup ("signers":Str)=some (V.ref i.sg):=rfl
def lV:Option Nat->V
 |none=>.ba
 |some x=>XZ
def kO(P:Plan)(ab:Za):Ze:=(List.range P.persons.length).map λx=>V.bl Zi7
def ic(P:Plan)(c:Choice):Ze:=(List.range P.steps.length).map λs=>lV (Vbwbal.signer c s)
structure RecAt(A:Ad)(H:Hp)(r:Addr)(i:bC)(j:aW)(P:Plan)(ab:Za)(c:Choice):Prop where
 ins:H r=some ZeL
 plan:ZkI H i.p j P
 absent:H i.ab=some (.lst (kO P ab))
 ib:H i.sg=some (.lst (ic P c))
 tab:Vy A.tab
theorem RecAt.same{A:Ad}{H H':Hp}{r:Addr}{i:bC}{j:aW}{P:Plan}{ab:Za}{c:Choice}(s:Zd)(h:YI):RecAt A H' r i j P ab c:=
 ⟨s.at h.ins,h.plan.same s,s.at h.absent,s.at h.ib,s.tab _ h.tab⟩
structure gZ(P:Plan)(c:Choice):Prop where
 steps:∀y∈c,y.1<P.steps.length
 persons:∀y∈c,y.2<P.persons.length
 nd:(c.map Zg).Nodup
 room:∀x,Vbwbal.load c x<=((P.persons[x]?).map λy=>y.most).getD 0
structure Txt(K:PySem.W.Frag)(mg:Zx)(A:Ad):Prop where
 cM:mg "len"=none
 aaX:mg "sum"=none
 xD:mg "any"=none
 rK:mg "all"=none
 aa1:mg "ord"=none
 KJ:mg "min"=none
 aa2:mg "max"=none
 aaZ:mg "sorted"=none
 KL:mg "list"=none
 aa4:mg "dict"=none
 aa0:mg "set"=none
 aa3:mg "int"=none
 aaY:mg "str"=none
 KI:mg "range"=none
 uK:mg "enumerate"=none
 uJ:mg "zip"=none
 bU:jP K A.plan
 b_:∀f,f∈(["roles","persons","steps","person_roles","step_roles","mosts","pairs"]:List Str)->hJ K A.plan f
 dD:jP K A.record
 dG:∀f,f∈(["plan","absent","entries","signers"]:List Str)->hJ K A.record f
 sM:jP K A.entry
 ko:∀f,f∈(["kind","target","person","text"]:List Str)->hJ K A.entry f
 oM:jP K A.part
 uL:∀f,f∈(["steps","persons"]:List Str)->hJ K A.part f
 BK:jP K A.j9
 KN:∀f,f∈(["record"]:List Str)->hJ K A.j9 f
 lH:jP K A.call
 jW:∀f,f∈(["number","numbers","text","places"]:List Str)->hJ K A.call f
 an4:mg "NUMBER_COUNTS"=some (.ref A.pI)
 pI:∀H,Vv A.pI Zhm
 adb:mg "PAIR_WORDS"=some (.ref A.lT)
 lT:∀H,Vv A.lT [.str "after",.str "unlike",.str "alike"]
 FE:Po mg "LETTERS" "abcdefghijklmnopqrstuvwxyz"
 FF:Po mg "DIGITS" "0123456789"
 ac7:ZZ "UNTOLD_MOST" 99
 M_:ZZ "SIGNATURE" 0
 Nj:ZZ "AMENDMENT" 1
 Nf:ZZ "FIRST_LETTER" 97
 Ng:ZZ "FIRST_DIGIT" 48
 aoo:ZZ "BLANK" 32
 aoj:ZZ "LINE_END" 10
 aoh:ZZ "LONGEST_NAME" 12
 aoa:ZZ "MOST_ROLES" 8
 aob:ZZ "MOST_PERSONS" 7
 an9:ZZ "MOST_STEPS" 7
 aoc:ZZ "MOST_PAIRS" 12
 an5:ZZ "NO_SUCH_LINE" 1
 ada:ZZ "TOLD_ALREADY" 2
 Nc:ZZ "NOT_TOLD" 3
 ac8:ZZ "TURNS_ON_ITSELF" 4
 ac9:ZZ "TOO_MANY" 5
 ade:ZZ "NOTHING" 0
 an3:ZZ "SIGNED" 1
 an1:ZZ "TOO_EARLY" 2
 aof:ZZ "MAY_NOT" 3
 aom:ZZ "DOES_NOT_GO" 4
 an8:ZZ "NO_END" 5
 adf:ZZ "LOAD" 0
 aoq:ZZ "AMEND" 8
 aog:ZZ "LONGEST_TEXT" 4000
 aoi:ZZ "LONGEST_AMENDMENT" 60
 aoe:ZZ "MOST_AMENDMENTS" 40
 aod:ZZ "MOST_COUNTED" 6
 aol:ZZ "GREATEST_BYTE" 255
 qf:ZZ "NO_SUCH" (-1)
 an6:ZZ "NO_RECORD" (-2)
 an7:ZZ "NO_MORE" (-3)
 Nd:ZZ "NOT_SO" (-4)
 aon:ZZ "CANT_END" (-7)
 an0:ZZ "TOO_MANY_LEFT" (-7)
 aop:ZZ "BARRED" (-10)
 aok:ZZ "IS_ABSENT" (-13)
 an2:ZZ "SIGNED_IT" (-14)
 anZ:ZZ "WRONG_TEXT" (-1000)
end
section
def oX(J:It)(g:TG)(tt:TT)(te:TE)(vs:Za)(σ:L2.St)(Q:VK)(H1:Hp):Prop:=∀D,H1 D=none->∃W:Nat->Nat->Hp->Prop,(∃m,Zod)/\∀i m H,W i m H->
 (ZdQ H/\Q Vh H)∨(U2 H/\∃Nx:Hp->Prop,(∀H',Nx H'->∃m',m'<m/\ZgZ H')/\∀x H',Zaz->ZjI H' fun σ2 H2=>Zg4 vs=XX vs/\tt σ2 H2 λb H3=>
  if b=true then te σ2 H3 λy H4=>∃acc,H4 D=some (.lst acc)/\acc.length<sizeLine/\Nx (upd H4 D (.lst (acc++[y])))else Nx H3)
theorem wQ(wi:TI)(g:TG)(tt:TT)(te:TE)(vs:Za)(σ:L2.St)(H:Hp)(Q:VK):wR wi g tt te vs σ H Q=wi σ H (λJ H1=>oX J g tt te vs σ Q H1):=rfl
def qw(J:It)(g:TG)(tb:TS)(D:Ends)(σ:L2.St)(H1:Hp):Prop:=∃W:Nat->Nat->L2.St->Hp->Prop,(∃m,W 0 m σ H1)/\∀i m σ H,W i m σ H->
 (ZdQ H/\W3 H)∨(U2 H/\∃N:L2.St->Hp->Prop,(∀σ' H',N σ' H'->∃m',m'<m/\ZgZ σ' H')/\∀x H',Zaz->g x σ H' fun σ2 H2=>tb {D with nx:=N,ct:=N,bk:=D.nx} σ2 H2)
theorem wU(wi:TI)(g:TG)(tb:TS)(D:Ends)(σ:L2.St)(H:Hp):Ql wi g tb D σ H=wi σ H (λJ H1=>qw J g tb D σ H1):=rfl
theorem K9{J:It}{n:Nat}{g:TG}{tt:TT}{te:TE}{vs:Za}{σ:L2.St}{H1:Hp}{D:Addr}{Qd:ZgC}(Pv:Nat->Hp->Prop)(h0:Pv 0 (Yr D Yh))
  (pY:∀i H,i<n->Pv i H->U2 H) (aT:∀H,Pv n H->J.stop n H)
  (hs:∀i x H H',i<n->Pv i H->Zaz->ZjI H' fun σ2 H2=>Zg4 vs=XX vs/\tt σ2 H2 λb H3=>
   if b=true then te σ2 H3 λy H4=>∃acc,H4 D=some (.lst acc)/\acc.length<sizeLine/\Pv (i+1) (upd H4 D (.lst (acc++[y])))else Pv (i+1) H3) (hd:∀H,Pv n H->Qd H):
  ∃W:Nat->Nat->Hp->Prop,(∃m,Zod)/\∀i m H,W i m H->
   (ZdQ H/\Qd H)∨(U2 H/\∃Nx:Hp->Prop,(∀H',Nx H'->∃m',m'<m/\ZgZ H')/\∀x H',Zaz->ZjI H' fun σ2 H2=>Zg4 vs=XX vs/\tt σ2 H2 λb H3=>
    if b=true then te σ2 H3 λy H4=>∃acc,H4 D=some (.lst acc)/\acc.length<sizeLine/\Nx (upd H4 D (.lst (acc++[y])))else Nx H3):=by
 refine⟨λi m H=>m=n-i/\i<=n/\Pv i H,⟨n,Zh,ZI,h0⟩,?_⟩;rintro i m H ⟨rfl,hi,p⟩;by_cases bG:i<n
 ·exact .inr ⟨pY i H bG p,Pv XG,λH' p'=>Zvy,λx H' y=>hs i x H H' bG p y⟩
 ·have e:i=n:=by omega
  subst e;exact .inl ⟨aT H p,hd H p⟩
theorem vE{J:It}{n:Nat}{g:TG}{tb:TS}{D:Ends}{σ:L2.St}{H:Hp}(Pv:Zag)(h0:ZaM)
  (pY:∀i σ H,i<n->X9->U2 H) (aT:∀σ H,Pv n σ H->J.stop n H)
  (hs:∀i x σ H H',i<n->X9->Zaz->g x σ H' fun σ2 H2=>tb {D with nx:=Pv (i+1),ct:=Pv (i+1),bk:=D.nx} σ2 H2) (hd:∀σ H,Pv n σ H->W3 H):
  qw J g tb D σ H:=by
 refine⟨λi m σ H=>m=n-i/\i<=n/\X9,⟨n,Zh,ZI,h0⟩,?_⟩;rintro i m σ H ⟨rfl,hi,p⟩;by_cases bG:i<n
 ·exact .inr ⟨pY i σ H bG p,Pv XG,fun σ' H' p'=>Zvy,λx H' y=>hs i x σ H H' bG p y⟩
 ·have e:i=n:=by omega
  subst e;exact .inl ⟨aT σ H p,hd σ H p⟩
theorem fM{α:Type}{l:ZN}{i:Nat}(h:i<l.length):∃x,l[i]? =some x:=⟨l[i],fP h⟩
theorem ll{α:Type}{l:ZN}{i:Nat}{x:α}(h:ZpU):i<l.length:=(iQ.mp h).1
section
variable {α:Type}{K:PySem.W.Frag}{a:Addr}{xs:Ze}{zs:ZN}{g:TG}{tt:TT}{te:TE}{vs:Za}{σ:L2.St}{H1:Hp}{Q:VK}
theorem abU{keep:ZdI}{f:α->V}{i:Nat}{z:α}(hz:zs[i]? =some z):
  (((zs.take XG).filter keep).map f)=((zs.take i).filter keep).map f++(if keep z=true then [f z]else []):=by
 rw[dA hz,wo,cA];congr 1;by_cases h:keep z=true
 ·simp[h]
 ·simp[h]
def yX(g:TG)(tt:TT)(te:TE)(vs:Za)(σ:L2.St)(x:V)(H':Hp)(Hs:Hp)(k:Bool)(v:V):Prop:=
 ∀(R:ZpF) (S:ZgC),(k=true->∀nI,ah Hs nI->R v nI)->(k=false->∀nI,ah Hs nI->S nI)->
  g x (XX vs) H' fun σ2 H2=>Zg4 vs=XX vs/\tt σ2 H2 λb H3=>if b=true then te σ2 H3 R else S H3
theorem AA{J:It}(hlen:Ze3)(keep:ZdI)(f:α->V)
  (pY:∀i H,i<zs.length->V9->U2 H) (aT:∀H,V9->J.stop zs.length H)
  (hy:∀i x z H H',zs[i]? =some z->V9->Zaz->ZcZ x H' H ZkV (f z))
  (q:Zk5):
  oX J g tt te vs σ Q H1:=by
 intro D hD;refine Zn6 (λi H=>YH H/\H D=some (.lst (((zs.take i).filter keep).map f))) ⟨a0 hD,au⟩ (λi H hi p=>pY i H hi p.1) (λH p=>aT H p.1) ?_ ZqN
 ·rintro i x H H' hi ⟨s1,hd⟩ y;obtain⟨z,hz⟩:=fM hi;refine hy i x z H H' hz s1 y _ _ (λhk nI s2=>?_) (λhk nI s2=>?_)
  ·refine⟨_,ZgA,?_,bV XJ hD (gf ZgA),?_⟩
   ·have h1:=eZ keep (zs.take i);have h2:=sz;rw[aq];rw[eY]at h1;omega
   ·rw[au,abU hz,af hk]
  ·refine⟨XJ,?_⟩;rw[s2.at hd,abU hz,ae (by rw[hk];simp),fc]
 ·refine q D H hD p.1 ?_;rw[p.2,eg]
theorem e8(hx:UA)(he:Ziq)(hlen:Ze3)(keep:ZdI)(f:α->V)
  (hy:∀(i:Nat) x z H,xs[i]? =some x->zs[i]? =some z->V9->ZcZ x H H ZkV (f z))
  (q:Zk5):
  oX ZdO g tt te vs σ Q H1:=by
 refine Zq7
 ·ext ag;exact⟨xs,x,ZgM,ex⟩
 ·ext W;exact hy i x z _ (y xs ZgM) hz s
theorem Ey(hx:UA)(he:Ziq)(hlen:Ze3)(keep:ZdI)(f:α->V)
  (hy:∀i x z H T,xs[i]? =some x->zs[i]? =some z->V9->H T=none->ZcZ (.ref T) ZvG H ZkV (f z))
  (q:Zk5):
  oX ZkQ g tt te vs σ Q H1:=by
 refine Zq7
 ·ext ag;exact⟨xs,x,ZgM,ex⟩
 ·obtain⟨T,x',e,hT,e2,y⟩:=y;subst e e2;exact hy i x' z H T (y xs ZgM) hz s hT
theorem abA{n:Nat}(hlen:n<=16777000)(keep:ZbN)(f:Nat->V)
  (hy:∀i H,i<n->V9->ZcZ (nat i) H H (keep i) (f i))
  (q:∀D H',H1 D=none->V5->H' D=some (.lst (((List.range n).filter keep).map f))->ZdS):
  oX (Hi 0 n) g tt te vs σ Q H1:=by
 have hn:(List.range n).length =n:=eM;refine AA (zs:=List.range n) (by rw[hn];exact hlen) keep f (λi H hi s=>by rw[hn]at hi;exact hi) (λH s=>by rw[hn];exact ZA) Zmg q;obtain⟨e,y⟩:=y;subst e y;obtain⟨hi,e⟩:=iQ.mp hz;rw[List.getElem_range]at e;subst e;rw[hn]at hi;have e2:V.int (0+(i:Int))=nat i:=by unfold nat;rw[Int.zero_add]
 rw[e2];exact hy i _ hi s
theorem alA{d:Addr}{o:Obj}{kvs:Yb}(hx:H1 d=some Zdo)(hlen:kvs.length<=16777000)(keep:Key×V->Bool)(f:Key×V->V)
  (hy:∀(i:Nat) z H,kvs[i]? =some z->V9->ZcZ (kV z.1) H H ZkV (f z))
  (q:∀D H',H1 D=none->V5->H' D=some (.lst ((kvs.filter keep).map f))->ZdS):
  oX Zjr g tt te vs σ Q H1:=by
 refine AA hlen keep f (λi H hi s=>⟨s.at hx,hi⟩) (λH s=>⟨s.at hx,ZA⟩) Zmg q;obtain⟨e,k,v,hk,e2⟩:=y;subst e e2;rw[hk]at hz;cases hz
 exact hy i (k,v) _ hk s
theorem K8{x:Str}(hlen:x.cps.size<=16777000)(keep:ZbN)(f:Nat->V)
  (hy:∀(i:Nat) c H,x.cps.toList[i]? =some c->V9->ZcZ Zkt H H (keep c) (f c))
  (q:∀D H',H1 D=none->V5->H' D=some (.lst ((x.cps.toList.filter keep).map f))->ZdS):
  oX (Pk x) g tt te vs σ Q H1:=by
 refine AA (zs:=x.cps.toList) hlen keep f (λi H hi s=>hi) (λH s=>ZA) (λi y z H H' hz s yy=>?_) q;obtain⟨e,c,hc,e2⟩:=yy;subst e e2;have fI:x.cps.toList[i]? =some c:=by simpa using hc
 rw[fI]at hz;cases hz
 exact hy i _ _ fI s
end
section
variable {K:PySem.W.Frag}{a:Addr}{xs:Ze}{g:TG}{tb:TS}{D:Ends}{σ:L2.St}{H:Hp}
theorem gH(xs:Ze)(Pv:Zag)(h0:ZaM)(hl:ZlE)
  (hs:ZqV) (hd:Zcy):qw ZdO g tb D σ H:=by
 refine Zg9
 ·ext ac
 ·ext W;exact Zvi
theorem aov(xs:Ze)(Pv:Zag)(h0:ZaM)(hl:∀i σ H,i<=xs.length->X9->VL)
  (hs:ZqV) (hd:Zcy):qw (Pj K a) g tb D σ H:=by
 refine Zg9
 ·ext ac
 ·ext W;exact Zvi
theorem adk{d:Addr}{o:Obj}(kvs:Yb)(Pv:Zag)(h0:ZaM)(hl:∀i σ H,i<=kvs.length->X9->H d=some Zdo)
  (hs:∀(i:Nat) z σ H,kvs[i]? =some z->X9->g (kV z.1) σ H fun σ2 H2=>tb {D with nx:=Pv (i+1),ct:=Pv (i+1),bk:=D.nx} σ2 H2) (hd:∀σ H,Pv kvs.length σ H->W3 H):qw Zjr g tb D σ H:=by
 refine vE (n:=kvs.length) Pv h0 (λi σ H hi p=>⟨Zbl p,hi⟩) (fun σ H p=>⟨ZfI p,ZA⟩) ZhL hd;obtain⟨e,k,v,hk,e2⟩:=y;subst e e2;exact hs i (k,v) σ _ hk p
theorem Bu{b:Addr}(xs ys:Ze)(he:xs.length=ys.length)(Pv:Zag)(h0:ZaM)(hl:∀i σ H,i<=xs.length->X9->YJ/\ZdU)
  (hs:∀(i:Nat) x y T σ H,xs[i]? =some x->ys[i]? =some y->X9->H T=none->Zjo (ZH T ZfJ) fun σ2 H2=>tb {D with nx:=Pv (i+1),ct:=Pv (i+1),bk:=D.nx} σ2 H2) (hd:Zcy):qw (Ph K a b) g tb D σ H:=by
 refine Zsk (fun σ H p=>⟨xs,ys,(ZfI p).1,(ZfI p).2,.inl ZA⟩) ZhL hd
 ·ext cm;exact⟨xs,ys,x,y,(Zbl p).1,(Zbl p).2,ex,ey⟩
 ·obtain⟨T,x,y,e,hT,e2,y1,y2⟩:=y;subst e e2;exact hs i x y T σ H (y1 xs (Zmz p).1) (y2 ys (Zmz p).2) p hT
end
theorem filter_all{α:Type}(l:ZN):l.filter Y9=l:=by
 induction l with
 |nil=>rfl
 |cons a r ih=>rw[jf,af rfl,ih]
end
section
section
variable {X:Cx}
def TZ(K:PySem.W.Frag):V->Ze->Hp->VK->Prop:=λx xs H Q=>∃(a:Addr) (ys:Ze) (y:V),x=V.ref a/\xs=[y]/\XD a ys/\il y=true/\ys.all il=true/\Q (.int ((ys.countP λz=>jI z y:Nat):Int)) H
theorem adZ{y:V}:∀{ys:Ze} {its:Zq},Zcc its->ys.all il=true->its.countP (iL y)=ys.countP λz=>jI z y
 |_,_,.nil,_=>rfl
 |_,_,.cons r t,f=>by rw[hZ,aP]at f;rw[Pe,Pe,adZ t f.2,By r f.1]
theorem akZ(K:PySem.W.Frag)(hK:X.K=K:=by rfl):oS X "list.count" (TZ K):=by
 subst hK;ext dp;obtain⟨a,ys,y,rfl,rfl,hs,fy,yL,q⟩:=h;cases rx
 cases rxs with
 |cons ry rt=>
  rename_i uy ut;cases rt
  ext bV;refine qi ash ⟨_,ho,rfl⟩ PySem.F.entry_list_count (PySem.F.args_list_count_2 _ _) (SeqAt.list_countAt a its.toArray n dd sl uy (iL y)) ZrB;rw[show its.toArray.toList=its from rfl,adZ rv yL];exact ZcG
theorem arq:YR Zax (λxs H Q=>∃a kvs,xs=[V.ref a]/\H a=some YA/\∀l,H l=none->ZY (WE YA)):=by
 ext z;ext ci
 ext bJ;refine kt_call_dict hS m Zb λh' hd hs=>?_;have hm:(s.heap.objs.size==sysModules)=false:=ip.mpr (oR I.big);have kp:∀b o,s.heap.get? b=some o->h'.get? b=some o:=λb o e=>(Za9 ZkU).trans XY;exact⟨Yn,Wl YA,Zno kp ZA (show WM _ _ _ YA from⟨hz,hm,vs,Aa,hd⟩),rfl,q _ X4⟩
theorem abT{P:Program}{w:World}:∀{kvs:Yb} {us:Zq},us.length=kvs.length->(∀(j:Nat) u,us[j]? =some u->∃k x,kvs[j]? =some (k,x)/\pM k u=true)->Vals ZhV us
 |[],us,hl,_=>by
  cases us with
  |nil=>exact .nil
  |cons a r=>simp at hl
 |kv::r,us,hl,h=>by
  cases us with
  |nil=>simp at hl
  |cons u t=>
   refine ZgU (abT (P:=P) (w:=w) (by simpa using hl) λj v e=>h (j+1) v e);obtain⟨k,x,e,hk⟩:=h 0 u rfl;have e':kv=(k,x):=bY e;subst e';rcases m5 hk with⟨i,t,rfl,rfl⟩|⟨z,t,rfl,rfl⟩
   ·exact Vk
   ·exact Vk
theorem ark(hc:Xz):YR Yg (λxs H Q=>∃a kvs,xs=[V.ref a]/\H a=some YA/\∀l,H l=none->ZY (WE (.lst ZhV))):=by
 ext z;ext ci
 ext bJ;obtain⟨ep,yk⟩:=m.dictAt;refine PySem.W.kdl_call (PySem.W.kdl_dict (knd:=Zbu) (kvs:=vs) (ep:=ep) hS) YV yk Zb λh' tk F7 c' hk hD sx=>?_;have hv:Vals ZhV F7.toList:=by refine abT (P:=X.prog) (w:=X.w) (by rw[oY,sx.1];omega) λj u hu=>?_;obtain⟨k,x,hx,hk⟩:=sx.2 j u (by rw[←af4];exact hu);obtain⟨kv,e1,e2,e3⟩:=Al Aa hx;refine⟨k,kv.2,?_,hk⟩;rw[e1];exact cb some (Prod.ext e2 rfl)
 refine⟨Yn,_,ZoO hk ZA (show WM _ h' _ (.lst ZhV)from⟨by rw[aq];exact hz,F7.toList,c',hv,by simpa using hD⟩),rfl,q _ X4⟩
def uv(K:PySem.W.Frag):V->V->Hp->VK->Prop:=λx y H Q=>∃p xs i v,x=.ref p/\y=nat i/\Zg0/\xs[i]? =some v/\Q v H
theorem anT(K:PySem.W.Frag)(hK:X.K=K:=by rfl):aeM X (uv K):=by
 subst hK;ext m;obtain⟨p,xs,i,z,rfl,rfl,hq,he,q⟩:=h;cases rx
 ext aD;ext ap;obtain⟨w,ew,kW⟩:=r.get he;have hl:=r.length;have hn:=uR;have hi:i<xs.length:=(iQ.mp he).1;exact wpAny_getItem_list (x:=w) (k:=(i:Int)) (Q:=Yy) pl.isList (Pn i) Zb ZxX ⟨z,H,I,kW,q⟩
end
end
section
structure qr(K:PySem.W.Frag)(a:Addr)(fs:X6):Prop where
 ex:∃o es ep,K.lookup a=some o/\o.ExactDict/\o.data=ZaW ep/\Zk2 es.toList fs
 nd:(fs.map Zg).Nodup
def Bt(fs:X6):Zfc:=fs.map λz=>(Sum.inl z.1,.ref z.2)
theorem qr.dict{K:PySem.W.Frag}{a:Addr}{fs:X6}(D:qr K a fs)(P:Program)(w:World){h:Heap}(X:V4):Zjc (Bt fs):=by
 obtain⟨o,es,ep,h1,h2,h3,h4⟩:=D.ex;refine⟨o,es,ep,X _ _ h1,h2,h3,λe he=>?_,?_,?_⟩
 ·obtain⟨n,hn,hm⟩:=zj.mp (show e∈es.toList by simpa using he);have:es.toList[n]? =some e:=by rw[fP hn,hm]
  clear he hn hm;have key:∀(l:List DictEntry) (m:X6),Zk2 l m->∀(n:Nat),l[n]? =some e->∃z:Int×Addr,e.hash=hashInt z.1/\∃t,e.key=.int z.1 t:=by
   intro l m hp
   induction hp with
   |nil=>intro n hn;simp at hn
   |cons q t ih=>
    intro n hn;cases n with
    |zero=>
     have:=bY hn;subst this;exact⟨_,q.1,q.2.1⟩
    |succ n=>exact ih n hn
  obtain⟨z,e1,t,e2⟩:=key _ _ h4 n this;exact⟨Sum.inl z.1,by rw[e2];exact KP P w z.1 t,e1⟩
 ·clear h1 h2 h3 D;generalize es.toList=l at h4;unfold Bt
  induction h4 with
  |nil=>exact .nil
  |cons q t ih=>
   obtain⟨_,⟨tk,e2⟩,e3⟩:=q;exact .cons (by rw[e2];exact KP P w _ tk) e3 ih
 ·unfold Bt;rw[bz];have:((λx:Key×Value=>x.1)∘λz:Int×Addr=>((Sum.inl z.1:Key),Value.ref z.2))=(λz:Int×Addr=>(Sum.inl z.1:Key)):=rfl;rw[this];have key:∀l:List (Int×Addr),(l.map Zg).Nodup ->(l.map λz=>(Sum.inl z.1:Key)).Nodup :=by
   intro l
   induction l with
   |nil=>intro _;exact sV
   |cons z r ih=>
    intro hn;obtain⟨n1,n2⟩:=Zb7;refine df.mpr ⟨λm=>n1 ?_,ih n2⟩;obtain⟨y,hy,e⟩:=aN.mp m;exact aN.mpr ⟨y,hy,oQ e⟩
  exact key fs D.nd
theorem qr.val{fs:X6}:∀{n:Int} {f:Addr},(fs.map Zg).Nodup ->(n,f)∈fs->valueAt (Bt fs) (Sum.inl n:Key)=some Yo:=by
 induction fs with
 |nil=>intro n f _ hm;cases hm
 |cons z r ih=>
  intro n f hn hm;obtain⟨n1,n2⟩:=Zb7;show(((Sum.inl z.1,Value.ref z.2)::Bt r).find? λkv=>kv.1=(Sum.inl n:Key)).map Z1=_;rw[oU];rcases aJ.mp hm with e|e
  ·rw[←e];simp
  ·have:¬(Sum.inl z.1:Key)=Sum.inl n:=λq=>n1 (by show z.1∈_;rw[oQ q];exact aN.mpr Zdd)
   rw[aX this];exact ih n2 e
section
variable {X:Cx}
def Qm(fs:X6)(ti:TE):TE:=fun σ H Q=>ti σ H λy H1=>∃n f,y=.int n/\(n,f)∈fs/\Q Yo H1
theorem aiA{i:Expr}{ti:TE}{pos p:Pos}{x:Str}{a:Addr}{fs:X6}(K:PySem.W.Frag)(D:qr K a fs)(hm:X.mg x=some ZX)(hg:X1)(hi:Zu i ti)(hs:OS i)(hK:X.K=K:=by rfl)(hd:(x==("__debug__":Str))=false:=by decide):
  PE X (.Subscript (Zeb p) i pos) (Qm fs ti):=by
 subst hK;ext f;refine Qs asi.lookup hs (aM (D0 hm hg hd pins s σ H (λv H'=>v=.ref a/\ti σ H' λy H1=>∃n f,y=.int n/\(n,f)∈fs/\Q Yo H1) I ⟨rfl,h⟩) λu s1 ⟨v,H1,I1,rv,ev,q1⟩=>aM ZhK λiv s2 ⟨y,H2,I2,ry,n,f,ey,jA,q2⟩=>?_);subst ev;obtain rfl:u=Value.ref a:=rv;subst ey;have dd:=D.dict X.prog X.w I2.kr;exact⟨dd.typeIs,wpAny_getItem_of (uV (k:=Sum.inl n) ry) dd.mapOf (qr.val D.nd jA) ⟨Yo,H2,I2.tok _,rfl,q2⟩⟩
def Qn(sY:V->Sp->Prop)(tf:TE)(ta:TA):TE:=fun σ H Q=>tf σ H λx H1=>∃sp,sY x sp/\Xb H1 λvs H2=>sp vs H2 Q E0
theorem aiB{sY:V->Sp->Prop}{o i e:Expr}{es:Ya}{tf:TE}{ta:TA}{pos p:Pos}{j:Nat}(hr:eA j X.A)(hc:∀x sp,sY x sp->∃f fd ps,x=.ref f/\aO X.prog X.w X.K X.mg X.base aQ j f fd ps sp/\PySem.W.keepIn X.K Yo=true/\Binds X.K fd ps [])(hf:Zu (Zar p) tf)(ha:VH ta)
  (he:Va X.env=(false,Yv)::VN X.env:=by rfl) (cC:(Xa WJ).any Zg=false:=by rfl):
  PE X Zu6 (Qn sY tf ta):=by
 ext f;have e0:eval Zu6 X.env=(do callWith pos (←eval (Zar p) X.env) [] (Xa Zqm) (ZbF Zh0)):=rfl;rw[e0];refine aj (aM (hf pins s σ H _ I h) λu s1 ⟨x,H1,I1,rx,sp,hx,q⟩=>?_);obtain⟨f,fd,ps,ex,F,hk,hb⟩:=hc x sp hx;subst ex;obtain rfl:u=Value.ref f:=rx;refine ZlV hk (aM (ha pos pins s1 σ H1 _ I1 q) λus s2 ⟨vs,H2,I2,r,q2⟩=>⟨I2.kr,?_⟩) he cC;exact TC F hr hb .nil D8 I2 r (by rw[fc];exact q2)
end
end
local macro_rules | `(tactic| simp! [$xs,*]) => `(tactic| simp only [nR, tN, pf, mL, kR, ux, qX, tP, qM, tU, kS, tM, mN, kK, mM, tD, tG, wN, tC, tB, tX, tJ, tK, tW, tI, wO, tO, qI, tT, qL, qJ, qZ, qY, uu, rg, rh, jk, rI, uA, uf, tQ, mQ, uq, uv, tV, vA, uw, uz, ur, nS, pj, qH, tF, qW, tH, tL, wQ, wU, rV, rT, rW, AL, u4, rS, AK, uZ, tu, qN, rR, tw, rU, tE, qV, tS, tR, wV, nT, ph, qK, vC, vB, Nat.succ_eq_add_one, sG, uc, w9, w_, w8, V.str.injEq, ua, uH, lY, xO, yM, fold_succ, List.set_cons_zero, List.set_cons_succ, List.getElem?_cons_zero, List.getElem?_cons_succ, Option.some.injEq, exists_eq_left', exists_eq_left, exists_and_left, and_assoc, true_and, and_true, V.bl.injEq, HO.lst.injEq, HO.ins.injEq, HO.tup.injEq, V.ref.injEq, V.int.injEq, decide_true, decide_false, if_true, if_false, List.cons.injEq, Bool.false_eq_true, au, jh, exists_const, exists_eq', exists_eq, and_self, List.append_nil, List.nil_append, List.cons_append, List.append_assoc, L2.start, List.map_cons, List.map_nil, List.length_cons, List.length_nil, Nat.zero_add, Nat.reduceAdd, Nat.reduceSub, List.replicate_succ, List.replicate_zero, wipe, $xs,*])
section
open PySem.W (nsIn findIn)
abbrev Jp:Stmt:=top 4
abbrev za:Zc:=["pairs","step"]
abbrev Dj:Stmt:=top 5
abbrev BV:Zc:=["plan","step"]
abbrev JH:Stmt:=top 6
abbrev GO:Zc:=["plan","later","earlier"]
abbrev Di:Stmt:=top 20
abbrev nE:Zc:=["record"]
abbrev Dq:Stmt:=top 21
abbrev y_:Zc:=["record"]
abbrev Ji:Stmt:=top 24
abbrev y9:Zc:=["record","person"]
abbrev Dt:Stmt:=top 25
abbrev BZ:Zc:=["record","person","step"]
abbrev zU:Stmt:=top 26
abbrev Gx:Zc:=["record","word","step"]
abbrev Dy:Stmt:=top 27
abbrev B4:Zc:=["record","person","step"]
abbrev zW:Stmt:=top 46
abbrev qp:Zc:=["record"]
abbrev JE:Stmt:=top 47
abbrev B5:Zc:=["options","step","person"]
abbrev Jr:Stmt:=top 48
abbrev GA:Zc:=["options","steps"]
abbrev Dh:Stmt:=top 49
abbrev Gg:Zc:=["options","persons"]
abbrev Dl:Stmt:=top 38
abbrev y8:Zc:=["some","others"]
abbrev JP:Stmt:=top 39
abbrev GZ:Zc:=["plan","steps"]
abbrev IZ:Stmt:=top 40
abbrev BU:Zc:=["plan","steps"]
abbrev DM:Stmt:=inClass (top 37) 0
abbrev ze:Zc:=["self","steps","persons"]
abbrev zV:Stmt:=top 41
abbrev Gy:Zc:=["plan","options","rooms","steps"]
abbrev Dr:Stmt:=top 42
abbrev Gw:Zc:=["plan","parts","taken","person","room"]
abbrev zZ:Stmt:=top 43
abbrev vZ:Zc:=["plan","parts","rooms"]
abbrev DC:Stmt:=top 44
abbrev GQ:Zc:=["plan","options","rooms"]
abbrev DA:Stmt:=top 50
abbrev sS:Zc:=["record","options"]
abbrev JK:Stmt:=top 51
abbrev v_:Zc:=["record"]
abbrev JJ:Stmt:=top 52
abbrev GR:Zc:=["record","step","person"]
abbrev zY:Stmt:=top 53
abbrev GK:Zc:=["record"]
abbrev Jt:Stmt:=top 54
abbrev GC:Zc:=["choices","members"]
abbrev JI:Stmt:=top 55
abbrev zc:Zc:=["members"]
abbrev JF:Stmt:=top 56
abbrev GN:Zc:=["record"]
abbrev Ju:Stmt:=top 57
abbrev GD:Zc:=["record"]
abbrev DE:Stmt:=top 101
abbrev zd:Zc:=["record","step","person"]
abbrev Dz:Stmt:=top 102
abbrev GJ:Zc:=["record","step"]
abbrev Jd:Stmt:=top 81
abbrev Gn:Zc:=["byte"]
abbrev zX:Stmt:=top 82
abbrev GG:Zc:=["text"]
abbrev Dv:Stmt:=top 83
abbrev B3:Zc:=["word"]
abbrev DG:Stmt:=top 84
abbrev GV:Zc:=["words"]
abbrev Dx:Stmt:=top 85
abbrev GH:Zc:=["word"]
abbrev JD:Stmt:=top 86
abbrev GI:Zc:=["words"]
abbrev Dg:Stmt:=top 87
abbrev Ge:Zc:=["names","most","words","known","wanted"]
abbrev Jq:Stmt:=top 88
abbrev BY:Zc:=["plan","words"]
abbrev IT:Stmt:=top 89
abbrev Gd:Zc:=["plan","words"]
abbrev IU:Stmt:=top 90
abbrev Gf:Zc:=["plan","words"]
abbrev Jy:Stmt:=top 8
abbrev mr:Zc:=["numbers"]
abbrev DD:Stmt:=top 9
abbrev B6:Zc:=["signs"]
abbrev Dn:Stmt:=top 10
abbrev BW:Zc:=["plan","roles"]
abbrev Jo:Stmt:=top 11
abbrev Gv:Zc:=["plan"]
abbrev Jc:Stmt:=top 12
abbrev Gm:Zc:=["plan"]
abbrev Dk:Stmt:=top 13
abbrev Gp:Zc:=["plan"]
abbrev DN:Stmt:=inClass (top 18) 0
abbrev zf:Zc:=["self","kind","target","person","text"]
abbrev DJ:Stmt:=top 22
abbrev G0:Zc:=["record"]
abbrev Jl:Stmt:=top 23
abbrev BX:Zc:=["record","entry"]
abbrev Jk:Stmt:=top 103
abbrev Gs:Zc:=["record","step","person"]
abbrev Jm:Stmt:=top 35
abbrev Gu:Zc:=["record","number","person","text"]
abbrev JA:Stmt:=top 29
abbrev B2:Zc:=["record","number"]
abbrev DI:Stmt:=top 30
abbrev GY:Zc:=["record"]
abbrev JN:Stmt:=top 31
abbrev B7:Zc:=["entry","number"]
abbrev DH:Stmt:=top 32
abbrev GX:Zc:=["record","number"]
abbrev I_:Stmt:=top 33
abbrev Gi:Zc:=["record","number","count"]
abbrev IX:Stmt:=top 34
abbrev Gh:Zc:=["record","count"]
abbrev Jf:Stmt:=top 14
abbrev Gq:Zc:=["plan"]
abbrev Ds:Stmt:=top 59
abbrev Gz:Zc:=["record","options","word"]
abbrev xa:Stmt:=top 60
abbrev GP:Zc:=["record","options","person","share"]
abbrev DF:Stmt:=top 61
abbrev GU:Zc:=["steps"]
abbrev Js:Stmt:=top 62
abbrev GB:Zc:=["counts","shares"]
abbrev DB:Stmt:=top 63
abbrev GL:Zc:=["record"]
abbrev Dm:Stmt:=top 91
abbrev Gr:Zc:=["plan","names"]
abbrev Jb:Stmt:=top 92
abbrev Gk:Zc:=["plan","words"]
abbrev Ja:Stmt:=top 93
abbrev Gj:Zc:=["plan","text"]
abbrev DO:Stmt:=inClass (top 123) 0
abbrev B_:Zc:=["self"]
abbrev DP:Stmt:=inClass (top 124) 0
abbrev Ca:Zc:=["self","number","numbers","text","places"]
abbrev DK:Stmt:=inClass (top 19) 0
abbrev B8:Zc:=["self","plan"]
abbrev DL:Stmt:=inClass (top 3) 0
abbrev B9:Zc:=["self"]
abbrev JL:Stmt:=top 125
abbrev GS:Zc:=["calls","place"]
abbrev Du:Stmt:=top 126
abbrev B1:Zc:=["numbers","longest"]
abbrev Jz:Stmt:=top 127
abbrev zb:Zc:=["record","number"]
abbrev JB:Stmt:=top 128
abbrev vY:Zc:=["record","number"]
abbrev Jg:Stmt:=top 130
abbrev OF:Zc:=["record","call"]
abbrev JG:Stmt:=top 134
abbrev OO:Zc:=["record","call"]
abbrev Jv:Stmt:=top 135
abbrev OJ:Zc:=["record","call"]
abbrev Jj:Stmt:=top 141
abbrev OH:Zc:=["record","call"]
abbrev IW:Stmt:=top 142
abbrev OC:Zc:=["record","call"]
abbrev Jn:Stmt:=top 133
abbrev OI:Zc:=["record","call"]
abbrev IV:Stmt:=top 136
abbrev OB:Zc:=["record","call"]
abbrev IY:Stmt:=top 138
abbrev OD:Zc:=["record","call"]
abbrev JC:Stmt:=top 139
abbrev ON:Zc:=["record","call"]
abbrev Jx:Stmt:=top 140
abbrev OM:Zc:=["record","call"]
abbrev Jw:Stmt:=top 143
abbrev OL:Zc:=["record","call"]
abbrev Je:Stmt:=top 131
abbrev OE:Zc:=["record","call"]
abbrev Jh:Stmt:=top 132
abbrev OG:Zc:=["record","call"]
abbrev JO:Stmt:=top 137
abbrev OP:Zc:=["record","call"]
abbrev s_load:Stmt:=top 129
abbrev GF:Zc:=["desk","text"]
abbrev JM:Stmt:=top 145
abbrev GW:Zc:=["desk","call"]
abbrev z0:Stmt:=top 146
abbrev mv:Zc:=["calls"]
def oJ:List (Nat×Str):=[(1,"shown"),(2,"sign"),(3,"set_absent"),(4,"plan_end"),(5,"core"),(6,"needed"),(7,"who"),(8,"amend"),(9,"view"),(10,"history"),(11,"may"),(12,"released"),(13,"ways"),(14,"names")]
structure atr(K:PySem.W.Frag)(x:Str)(st:Stmt)(ps:Zc)(f:Addr)(fd:FuncData):Prop where
 ns:Yc x=some ZaG
 F:Zo x x st f fd
 b:UE ps []
def aw(K:PySem.W.Frag)(x:Str)(st:Stmt)(ps:Zc):Prop:=∃f fd,atr K x st ps f fd
def PH(x qual:Str)(st:Stmt)(ps:Zc):Prop:=∀(kV doc pm:Value) (an:Ws) (aG ct:Value) (us:Zq),us.length=ps.length->bindArgs ZkR Zf8=pure ZbI
theorem a_{K:PySem.W.Frag}{x:Str}{st:Stmt}{ps:Zc}{f:Addr}{oc:Value}{od an:Ws}{jn:ZdF}{kV doc pm aG ct:Value}(b:PH x x st ps)(a:Yc x=some ZaG)
  (l:K.lookup f=some ⟨oc,od,.func (PySem.W.fnOf x x (vG st) (oK st) Zd7 .none kV doc pm an aG ct),jn⟩) (c:ZlC x=true) (k:Zqn):Zp x st ps:=
 ⟨f,_,a,FH l c k,(FH l c k).binds b⟩
structure gc(K:PySem.W.Frag)(x qual:Str)(st:Stmt)(ps fs:Zc)(C:Addr):Prop where
 ns:Yc x=some (some WY)
 cl:jP K C
 no:∀f∈fs,Vx f
 mkr:∃f fd,Mk K C f/\Zav qual st f fd/\UE ps []
theorem yS{K:PySem.W.Frag}{x qual:Str}{st:Stmt}{ps fs:Zc}{C f:Addr}{oc:Value}{od an:Ws}{jn:ZdF}{kV doc pm aG ct:Value}(b:PH "__init__" qual st ps)(a:Yc x=some (some WY))(i:ZqD "__init__"=some ZaG)(i2:PySem.W.isFn K Yo=true)
  (l:K.lookup f=some ⟨oc,od,.func (PySem.W.fnOf "__init__" qual (vG st) (oK st) Zd7 .none kV doc pm an aG ct),jn⟩) (c:ZpG) (k:Zqn)
  (pg:Zie Str.empty=true) (hd:Zil C=true) (po:Znr C=true) (sa:ZqD "__setattr__"=some Zls) (mk:Zn8 C=true) (kc:Zbi WY=true) (no:∀f∈fs,Vx f):gc K x qual st ps fs C:=
 ⟨a,⟨pg,hd,po,sa⟩,no,f,_,⟨mk,i,i2,kc⟩,FH l c k,(FH l c k).binds b⟩
theorem gh{K:PySem.W.Frag}{C:Addr}{f:Str}{fs:Zc}(h:ZqD f=some none)(t:∀g∈fs,Vx g):∀g∈f::fs,Vx g:=λg hg=>by
 rcases aJ.mp hg with e|e
 ·rw[e];exact h
 ·exact t g e
theorem xB{K:PySem.W.Frag}{C:Addr}:∀g∈([]:List Str),Vx g:=λg hg=>by cases hg
def g_(K:PySem.W.Frag)(x:Str):Prop:=Yc x=some none
def cu(K:PySem.W.Frag)(x:Str)(v:Tok->Value):Prop:=∃t,Yc x=some (some (v t))
theorem jo{K:PySem.W.Frag}{x:Str}(h:Yc x=some none):Xl x:=h
theorem cK{K:PySem.W.Frag}{x:Str}{i:Int}{t:Tok}(h:Yc x=some (some Zcd)):ZO x Xs:=⟨t,h⟩
theorem aaP{K:PySem.W.Frag}{x z:Str}{t:Tok}(h:Yc x=some (some (Zd5 t))):ZO x Zd5:=⟨t,h⟩
theorem Qz{K:PySem.W.Frag}{a:Addr}{xs:Ze}{o:Obj}{its:YN}{n:Nat}(l:K.lookup a=some o)(c:o.cls=.type "tuple")(d:o.data=.seq its n)(e:its.size<=sizeLine)(g:ZeN its.toList):∀H,VL:=λ_=>.inr ⟨o,its,n,l,c,d,e,g⟩
theorem aiY{K:PySem.W.Frag}{a:Addr}{fs:X6}{o:Obj}{es:Ur}{ep:Nat}(l:K.lookup a=some o)(c:o.ExactDict)(d:Ze9)(p:Zk2 es.toList fs)(n:(fs.map Zg).Nodup):qr K a fs:=⟨⟨o,es,ep,l,c,d,p⟩,n⟩
theorem arF:PH "answers" "answers" z0 mv:=λ_ _ _ _ _ _ us hl=>match us,hl with |[_],_=>rfl
structure PB(K:PySem.W.Frag):Prop where
 apV:Zp "as_bits" DF GU
 aph:Zp "open_pairs" Ds Gz
 ao2:Zp "room_of" Ji y9
 apN:Zp "can_take" xa GP
 apk:Zp "one_person_on" Js GB
 aoO:Zp "unsigned_steps" Di nE
 ao9:Zp "present_persons" Dq y_
 apq:Zp "may_do" Dt BZ
 apd:Zp "partners" Jp za
 ape:Zp "partner_signers" zU Gx
 apD:Zp "goes_with" Dy B4
 api:Zp "open_options" zW qp
 apl:Zp "one_longer" Jt GC
 apM:Zp "choices_of" JI zc
 apI:Zp "count_ways" DB GL
 ao0:Zp "share_any" Dl y8
 ap3:Zp "alike_steps" JP GZ
 aoP:Zp "unlike_steps" IZ BU
 apf:Zp "part_of" zV Gy
 apc:Zp "parts_behind" Dr Gw
 apO:Zp "can_fill_parts" zZ vZ
 apP:Zp "can_fill" DC GQ
 apH:Zp "fillable" DA sS
 apR:Zp "can_be_ended" JK v_
 apE:Zp "given" JE B5
 apQ:Zp "can_be_ended_with" JJ GR
 apG:Zp "first_way" zY GK
 apj:Zp "only_steps" Jr GA
 apJ:Zp "core_steps" JF GN
 aoJ:Zp "without_persons" Dh Gg
 apm:Zp "needed_persons" Ju GD
 apz:Zp "is_name" Dv B3
 apW:Zp "are_names" DG GV
 apA:Zp "is_most" Dx GH
 apC:Zp "has_form" JD GI
 aoH:Zp "wrong_newcomer" Dg Ge
 apg:Zp "pair_of" Jq BY
 aoQ:Zp "told_before" Dj BV
 apL:Zp "comes_after" JH GO
 aoG:Zp "wrong_pair" IT Gd
 aoI:Zp "wrong_kind" IU Gf
 aoV:Zp "sign_of" Jd Gn
 apu:Zp "lines_of" zX GG
 apw:Zp "is_step" Jz zb
 apy:Zp "is_person" JB vY
 apv:Zp "is_text" Du B1
 apS:Zp "call_at" JL GS
 apt:Zp "listed" Jy mr
 apT:Zp "bytes_of" DD B6
 ao4:Zp "role_names" Dn BW
 apb:Zp "person_lines" Jo Gv
 aoU:Zp "step_lines" Jc Gm
 aoX:Zp "shown_text" Dk Gp
 aoZ:Zp "shown" Jg OF
 apK:Zp "core" JG OO
 apn:Zp "needed" Jv OJ
 ao5:Zp "released" Jj OH
 aoL:Zp "ways" IW OC
 apU:Zp "bar_of" DE zd
 apF:Zp "free_signers" Dz GJ
 aoK:Zp "who" IV OB
 apx:Zp "is_signature" JA B2
 apZ:Zp "amends" JN B7
 ap0:Zp "amendments_of" DH GX
 apB:Zp "history" JC ON
 apr:Zp "may" Jx OM
 aoR:Zp "text_as_of" I_ Gi
 aoM:Zp "viewed" IX Gh
 aoN:Zp "view" IY OD
 apa:Zp "plan_end" Jn OI
 aoY:Zp "shown_names" Jf Gq
 ap4:Zp "absent_persons" DJ G0
 apo:Zp "names" Jw OL
 ao7:Zp "put_entry" Jl BX
 ao6:Zp "put_signature" Jk Gs
 aoW:Zp "sign" Je OE
 ao1:Zp "set_absent" Jh OG
 ap1:Zp "amendment_count" DI GY
 ao8:Zp "put_amendment" Jm Gu
 ap2:Zp "amend" JO OP
 ao3:Zp "role_numbers" Dm Gr
 aoT:Zp "tell" Jb Gk
 aoS:Zp "tell_text" Ja Gj
 aps:Zp "load" s_load GF
 apY:Zp "answer_to" JM GW
 apX:Zp "answers" z0 mv
 cM:Xl "len"
 aaX:Xl "sum"
 xD:Xl "any"
 rK:Xl "all"
 aa1:Xl "ord"
 KJ:Xl "min"
 aa2:Xl "max"
 aaZ:Xl "sorted"
 KL:Xl "list"
 aa4:Xl "dict"
 aa0:Xl "set"
 aa3:Xl "int"
 aaY:Xl "str"
 KI:Xl "range"
 uK:Xl "enumerate"
 uJ:Xl "zip"
 at0:ZO "UNTOLD_MOST" (.int (99))
 aua:ZO "SIGNATURE" (.int (0))
 auF:ZO "AMENDMENT" (.int (1))
 auz:ZO "FIRST_LETTER" (.int (97))
 auA:ZO "FIRST_DIGIT" (.int (48))
 auD:ZO "BLANK" (.int (32))
 auv:ZO "LINE_END" (.int (10))
 aus:ZO "LONGEST_NAME" (.int (12))
 aul:ZO "MOST_ROLES" (.int (8))
 aum:ZO "MOST_PERSONS" (.int (7))
 auk:ZO "MOST_STEPS" (.int (7))
 aun:ZO "MOST_PAIRS" (.int (12))
 aub:ZO "NO_SUCH_LINE" (.int (1))
 at7:ZO "TOLD_ALREADY" (.int (2))
 auh:ZO "NOT_TOLD" (.int (3))
 at1:ZO "TURNS_ON_ITSELF" (.int (4))
 at4:ZO "TOO_MANY" (.int (5))
 auj:ZO "NOTHING" (.int (0))
 at9:ZO "SIGNED" (.int (1))
 at5:ZO "TOO_EARLY" (.int (2))
 auq:ZO "MAY_NOT" (.int (3))
 auB:ZO "DOES_NOT_GO" (.int (4))
 auf:ZO "NO_END" (.int (5))
 auu:ZO "LOAD" (.int (0))
 auG:ZO "AMEND" (.int (8))
 aur:ZO "LONGEST_TEXT" (.int (4000))
 aut:ZO "LONGEST_AMENDMENT" (.int (60))
 aup:ZO "MOST_AMENDMENTS" (.int (40))
 auo:ZO "MOST_COUNTED" (.int (6))
 auy:ZO "GREATEST_BYTE" (.int (255))
 auc:ZO "NO_SUCH" (.int (-1))
 aud:ZO "NO_RECORD" (.int (-2))
 aue:ZO "NO_MORE" (.int (-3))
 aui:ZO "NOT_SO" (.int (-4))
 auC:ZO "CANT_END" (.int (-7))
 at3:ZO "TOO_MANY_LEFT" (.int (-7))
 auE:ZO "BARRED" (.int (-10))
 auw:ZO "IS_ABSENT" (.int (-13))
 at8:ZO "SIGNED_IT" (.int (-14))
 atZ:ZO "WRONG_TEXT" (.int (-1000))
 atE:ZO "LETTERS" (.str "abcdefghijklmnopqrstuvwxyz")
 atF:ZO "DIGITS" (.str "0123456789")
structure Bound(K:PySem.W.Frag)(A:Ad)(fs:X6):Prop where
 bf:PB K
 N8:ZuG B9 ["roles","persons","steps","person_roles","step_roles","mosts","pairs"] A.plan
 N9:ZuF ze ["steps","persons"] A.part
 N_:Zub zf ["kind","target","person","text"] A.entry
 N7:ZtN B8 ["plan","absent","entries","signers"] A.record
 Oa:ZuE B_ ["record"] A.j9
 Ob:ZuD Ca ["number","numbers","text","places"] A.call
 TY:Yc "NUMBER_COUNTS"=some (some (.ref A.pI))
 pI:∀H,Vv A.pI Zhm
 TX:Yc "PAIR_WORDS"=some (some (.ref A.lT))
 lT:∀H,Vv A.lT [.str "after",.str "unlike",.str "alike"]
 J7:Yc "ON_A_RECORD"=some (some (.ref A.Eg))
 Kv:qr K A.Eg fs
 NN:∀n x,(n,x)∈oJ->∃f,Yc x=some ZaG/\((n:Int),f)∈fs
def af1(K:PySem.W.Frag)(q:Program):Prop:=∃(A:Ad) (fs:X6) (c:Addr) (dr:DefRec),ZjB/\Zim "can_fill_parts"=some Zkz/\K.lookup A.tab=none/\(recsOf q).find? Zhi=some dr
theorem arH{q:Program}{K:PySem.W.Frag}{c aeC aeB aeF aCall aeE aeD Oq Ou Ot Oo d1 d2 d3 d4 d5 d6 d7 d8 d9 NW NV NU NS NR:Addr}{dr:DefRec}(B0:PB K)(N8:ZuG B9 ["roles","persons","steps","person_roles","step_roles","mosts","pairs"] aeC)(N9:ZuF ze ["steps","persons"] aeD)(N_:Zub zf ["kind","target","person","text"] aeE)(N7:ZtN B8 ["plan","absent","entries","signers"] aeB)(Oa:ZuE B_ ["record"] aeF)(Ob:ZuD Ca ["number","numbers","text","places"] aCall)(TY:Yc "NUMBER_COUNTS"=some (some (.ref Ou)))(pI:∀H,Vv Ou Zhm)(TX:Yc "PAIR_WORDS"=some (some (.ref Oq)))(lT:∀H,Vv Oq [.str "after",.str "unlike",.str "alike"])(J7:Yc "ON_A_RECORD"=some (some (.ref Ot)))(Kv:qr K Ot [(1,d1),(2,d2),(3,d3),(4,d4),(5,d5),(6,d6),(7,d7),(8,d8),(9,d9),(10,NW),(11,NV),(12,NU),(13,NS),(14,NR)])(NN:∀n x,(n,x)∈oJ->∃f,Yc x=some ZaG/\((n:Int),f)∈[(1,d1),(2,d2),(3,d3),(4,d4),(5,d5),(6,d6),(7,d7),(8,d8),(9,d9),(10,NW),(11,NV),(12,NU),(13,NS),(14,NR)])(ht:Zim "can_fill_parts"=some (c,Oo))(hn:K.lookup Oo=none)(m9:Zu5):af1 K q:=⟨⟨aeC,aeB,aeF,aCall,aeE,aeD,Oq,Ou,Ot,Oo⟩,[(1,d1),(2,d2),(3,d3),(4,d4),(5,d5),(6,d6),(7,d7),(8,d8),(9,d9),(10,NW),(11,NV),(12,NU),(13,NS),(14,NR)],c,dr,⟨B0,N8,N9,N_,N7,Oa,Ob,TY,pI,TX,lT,J7,Kv,NN⟩,ht,hn,m9⟩
theorem aqi{K:PySem.W.Frag}{f1 f2 f3 f4 f5 f6 f7 f8 f9 f10 f11 f12 f13 f14:Addr}(z1:Yc "shown"=some (some (.ref f1)))(z2:Yc "sign"=some (some (.ref f2)))(z3:Yc "set_absent"=some (some (.ref f3)))(z4:Yc "plan_end"=some (some (.ref f4)))(z5:Yc "core"=some (some (.ref f5)))(z6:Yc "needed"=some (some (.ref f6)))(z7:Yc "who"=some (some (.ref f7)))(z8:Yc "amend"=some (some (.ref f8)))(z9:Yc "view"=some (some (.ref f9)))(z10:Yc "history"=some (some (.ref f10)))(z11:Yc "may"=some (some (.ref f11)))(PN:Yc "released"=some (some (.ref f12)))(PM:Yc "ways"=some (some (.ref f13)))(z14:Yc "names"=some (some (.ref f14))):∀n x,(n,x)∈oJ->∃f,Yc x=some ZaG/\((n:Int),f)∈[((1 :Int),f1),((2 :Int),f2),((3 :Int),f3),((4 :Int),f4),((5 :Int),f5),((6 :Int),f6),((7 :Int),f7),((8 :Int),f8),((9 :Int),f9),((10 :Int),f10),((11 :Int),f11),((12 :Int),f12),((13 :Int),f13),((14 :Int),f14)]:=λn x h=>by unfold oJ at h;simp only[aJ,OA,mw,lU]at h;rcases h with⟨rfl,rfl⟩|⟨rfl,rfl⟩|⟨rfl,rfl⟩|⟨rfl,rfl⟩|⟨rfl,rfl⟩|⟨rfl,rfl⟩|⟨rfl,rfl⟩|⟨rfl,rfl⟩|⟨rfl,rfl⟩|⟨rfl,rfl⟩|⟨rfl,rfl⟩|⟨rfl,rfl⟩|⟨rfl,rfl⟩|⟨rfl,rfl⟩<;>exact⟨_,by assumption,by simp⟩
end
end
end Br
end
section
open PySem PySem.W PyProof.Rows
set_option maxRecDepth 100000 in
set_option maxHeartbeats 0 in
theorem Br.early(W:∀{q:Program} {loose:List Str} {XP:(Str->Option Value)->Heap->Prop} {YP:World->Heap->Prop} {d:DefRec} {K:Params->PySem.W.Frag},d.name="answers"->(∀(w:World) (h:Heap),YP w h->(K w.params).In h)->(∀w:World,Br.af1 (K w.params) q)->PySem.W.WalkOS q loose XP YP PySem.Challenge.rw_batchrecord_s01_answers d [] (λf vs=>PySem.call f vs)):PySem.Challenge.rw_batchrecord_s01_answers.Holds:=by
  w_on;k_headS;(case hw=>exact⟨[.list []],by decide+kernel,by decide+kernel⟩)
  k_fillS
  refine W rfl (λw h Y=>PySem.W.kIn_of Y) λw=>?_
  refine' Br.arH (Br.PB.mk (Br.a_ (λ_ _ _ _ _ _ us hl=>match us,hl with |[_],_=>rfl) ?_ ?_ ?_ ?_) (Br.a_ (λ_ _ _ _ _ _ us hl=>match us,hl with |[_,_,_],_=>rfl) ?_ ?_ ?_ ?_) (Br.a_ (λ_ _ _ _ _ _ us hl=>match us,hl with |[_,_],_=>rfl) ?_ ?_ ?_ ?_) (Br.a_ (λ_ _ _ _ _ _ us hl=>match us,hl with |[_,_,_,_],_=>rfl) ?_ ?_ ?_ ?_) (Br.a_ (λ_ _ _ _ _ _ us hl=>match us,hl with |[_,_],_=>rfl) ?_ ?_ ?_ ?_) (Br.a_ (λ_ _ _ _ _ _ us hl=>match us,hl with |[_],_=>rfl) ?_ ?_ ?_ ?_) (Br.a_ (λ_ _ _ _ _ _ us hl=>match us,hl with |[_],_=>rfl) ?_ ?_ ?_ ?_) (Br.a_ (λ_ _ _ _ _ _ us hl=>match us,hl with |[_,_,_],_=>rfl) ?_ ?_ ?_ ?_) (Br.a_ (λ_ _ _ _ _ _ us hl=>match us,hl with |[_,_],_=>rfl) ?_ ?_ ?_ ?_) (Br.a_ (λ_ _ _ _ _ _ us hl=>match us,hl with |[_,_,_],_=>rfl) ?_ ?_ ?_ ?_) (Br.a_ (λ_ _ _ _ _ _ us hl=>match us,hl with |[_,_,_],_=>rfl) ?_ ?_ ?_ ?_) (Br.a_ (λ_ _ _ _ _ _ us hl=>match us,hl with |[_],_=>rfl) ?_ ?_ ?_ ?_) (Br.a_ (λ_ _ _ _ _ _ us hl=>match us,hl with |[_,_],_=>rfl) ?_ ?_ ?_ ?_) (Br.a_ (λ_ _ _ _ _ _ us hl=>match us,hl with |[_],_=>rfl) ?_ ?_ ?_ ?_) (Br.a_ (λ_ _ _ _ _ _ us hl=>match us,hl with |[_],_=>rfl) ?_ ?_ ?_ ?_) (Br.a_ (λ_ _ _ _ _ _ us hl=>match us,hl with |[_,_],_=>rfl) ?_ ?_ ?_ ?_) (Br.a_ (λ_ _ _ _ _ _ us hl=>match us,hl with |[_,_],_=>rfl) ?_ ?_ ?_ ?_) (Br.a_ (λ_ _ _ _ _ _ us hl=>match us,hl with |[_,_],_=>rfl) ?_ ?_ ?_ ?_) (Br.a_ (λ_ _ _ _ _ _ us hl=>match us,hl with |[_,_,_,_],_=>rfl) ?_ ?_ ?_ ?_) (Br.a_ (λ_ _ _ _ _ _ us hl=>match us,hl with |[_,_,_,_,_],_=>rfl) ?_ ?_ ?_ ?_) (Br.a_ (λ_ _ _ _ _ _ us hl=>match us,hl with |[_,_,_],_=>rfl) ?_ ?_ ?_ ?_) (Br.a_ (λ_ _ _ _ _ _ us hl=>match us,hl with |[_,_,_],_=>rfl) ?_ ?_ ?_ ?_) (Br.a_ (λ_ _ _ _ _ _ us hl=>match us,hl with |[_,_],_=>rfl) ?_ ?_ ?_ ?_) (Br.a_ (λ_ _ _ _ _ _ us hl=>match us,hl with |[_],_=>rfl) ?_ ?_ ?_ ?_) (Br.a_ (λ_ _ _ _ _ _ us hl=>match us,hl with |[_,_,_],_=>rfl) ?_ ?_ ?_ ?_) (Br.a_ (λ_ _ _ _ _ _ us hl=>match us,hl with |[_,_,_],_=>rfl) ?_ ?_ ?_ ?_) (Br.a_ (λ_ _ _ _ _ _ us hl=>match us,hl with |[_],_=>rfl) ?_ ?_ ?_ ?_) (Br.a_ (λ_ _ _ _ _ _ us hl=>match us,hl with |[_,_],_=>rfl) ?_ ?_ ?_ ?_) (Br.a_ (λ_ _ _ _ _ _ us hl=>match us,hl with |[_],_=>rfl) ?_ ?_ ?_ ?_) (Br.a_ (λ_ _ _ _ _ _ us hl=>match us,hl with |[_,_],_=>rfl) ?_ ?_ ?_ ?_) (Br.a_ (λ_ _ _ _ _ _ us hl=>match us,hl with |[_],_=>rfl) ?_ ?_ ?_ ?_) (Br.a_ (λ_ _ _ _ _ _ us hl=>match us,hl with |[_],_=>rfl) ?_ ?_ ?_ ?_) (Br.a_ (λ_ _ _ _ _ _ us hl=>match us,hl with |[_],_=>rfl) ?_ ?_ ?_ ?_) (Br.a_ (λ_ _ _ _ _ _ us hl=>match us,hl with |[_],_=>rfl) ?_ ?_ ?_ ?_) (Br.a_ (λ_ _ _ _ _ _ us hl=>match us,hl with |[_],_=>rfl) ?_ ?_ ?_ ?_) (Br.a_ (λ_ _ _ _ _ _ us hl=>match us,hl with |[_,_,_,_,_],_=>rfl) ?_ ?_ ?_ ?_) (Br.a_ (λ_ _ _ _ _ _ us hl=>match us,hl with |[_,_],_=>rfl) ?_ ?_ ?_ ?_) (Br.a_ (λ_ _ _ _ _ _ us hl=>match us,hl with |[_,_],_=>rfl) ?_ ?_ ?_ ?_) (Br.a_ (λ_ _ _ _ _ _ us hl=>match us,hl with |[_,_,_],_=>rfl) ?_ ?_ ?_ ?_) (Br.a_ (λ_ _ _ _ _ _ us hl=>match us,hl with |[_,_],_=>rfl) ?_ ?_ ?_ ?_) (Br.a_ (λ_ _ _ _ _ _ us hl=>match us,hl with |[_,_],_=>rfl) ?_ ?_ ?_ ?_) (Br.a_ (λ_ _ _ _ _ _ us hl=>match us,hl with |[_],_=>rfl) ?_ ?_ ?_ ?_) (Br.a_ (λ_ _ _ _ _ _ us hl=>match us,hl with |[_],_=>rfl) ?_ ?_ ?_ ?_) (Br.a_ (λ_ _ _ _ _ _ us hl=>match us,hl with |[_,_],_=>rfl) ?_ ?_ ?_ ?_) (Br.a_ (λ_ _ _ _ _ _ us hl=>match us,hl with |[_,_],_=>rfl) ?_ ?_ ?_ ?_) (Br.a_ (λ_ _ _ _ _ _ us hl=>match us,hl with |[_,_],_=>rfl) ?_ ?_ ?_ ?_) (Br.a_ (λ_ _ _ _ _ _ us hl=>match us,hl with |[_,_],_=>rfl) ?_ ?_ ?_ ?_) (Br.a_ (λ_ _ _ _ _ _ us hl=>match us,hl with |[_],_=>rfl) ?_ ?_ ?_ ?_) (Br.a_ (λ_ _ _ _ _ _ us hl=>match us,hl with |[_],_=>rfl) ?_ ?_ ?_ ?_) (Br.a_ (λ_ _ _ _ _ _ us hl=>match us,hl with |[_,_],_=>rfl) ?_ ?_ ?_ ?_) (Br.a_ (λ_ _ _ _ _ _ us hl=>match us,hl with |[_],_=>rfl) ?_ ?_ ?_ ?_) (Br.a_ (λ_ _ _ _ _ _ us hl=>match us,hl with |[_],_=>rfl) ?_ ?_ ?_ ?_) (Br.a_ (λ_ _ _ _ _ _ us hl=>match us,hl with |[_],_=>rfl) ?_ ?_ ?_ ?_) (Br.a_ (λ_ _ _ _ _ _ us hl=>match us,hl with |[_,_],_=>rfl) ?_ ?_ ?_ ?_) (Br.a_ (λ_ _ _ _ _ _ us hl=>match us,hl with |[_,_],_=>rfl) ?_ ?_ ?_ ?_) (Br.a_ (λ_ _ _ _ _ _ us hl=>match us,hl with |[_,_],_=>rfl) ?_ ?_ ?_ ?_) (Br.a_ (λ_ _ _ _ _ _ us hl=>match us,hl with |[_,_],_=>rfl) ?_ ?_ ?_ ?_) (Br.a_ (λ_ _ _ _ _ _ us hl=>match us,hl with |[_,_],_=>rfl) ?_ ?_ ?_ ?_) (Br.a_ (λ_ _ _ _ _ _ us hl=>match us,hl with |[_,_,_],_=>rfl) ?_ ?_ ?_ ?_) (Br.a_ (λ_ _ _ _ _ _ us hl=>match us,hl with |[_,_],_=>rfl) ?_ ?_ ?_ ?_) (Br.a_ (λ_ _ _ _ _ _ us hl=>match us,hl with |[_,_],_=>rfl) ?_ ?_ ?_ ?_) (Br.a_ (λ_ _ _ _ _ _ us hl=>match us,hl with |[_,_],_=>rfl) ?_ ?_ ?_ ?_) (Br.a_ (λ_ _ _ _ _ _ us hl=>match us,hl with |[_,_],_=>rfl) ?_ ?_ ?_ ?_) (Br.a_ (λ_ _ _ _ _ _ us hl=>match us,hl with |[_,_],_=>rfl) ?_ ?_ ?_ ?_) (Br.a_ (λ_ _ _ _ _ _ us hl=>match us,hl with |[_,_],_=>rfl) ?_ ?_ ?_ ?_) (Br.a_ (λ_ _ _ _ _ _ us hl=>match us,hl with |[_,_],_=>rfl) ?_ ?_ ?_ ?_) (Br.a_ (λ_ _ _ _ _ _ us hl=>match us,hl with |[_,_,_],_=>rfl) ?_ ?_ ?_ ?_) (Br.a_ (λ_ _ _ _ _ _ us hl=>match us,hl with |[_,_],_=>rfl) ?_ ?_ ?_ ?_) (Br.a_ (λ_ _ _ _ _ _ us hl=>match us,hl with |[_,_],_=>rfl) ?_ ?_ ?_ ?_) (Br.a_ (λ_ _ _ _ _ _ us hl=>match us,hl with |[_,_],_=>rfl) ?_ ?_ ?_ ?_) (Br.a_ (λ_ _ _ _ _ _ us hl=>match us,hl with |[_],_=>rfl) ?_ ?_ ?_ ?_) (Br.a_ (λ_ _ _ _ _ _ us hl=>match us,hl with |[_],_=>rfl) ?_ ?_ ?_ ?_) (Br.a_ (λ_ _ _ _ _ _ us hl=>match us,hl with |[_,_],_=>rfl) ?_ ?_ ?_ ?_) (Br.a_ (λ_ _ _ _ _ _ us hl=>match us,hl with |[_,_],_=>rfl) ?_ ?_ ?_ ?_) (Br.a_ (λ_ _ _ _ _ _ us hl=>match us,hl with |[_,_,_],_=>rfl) ?_ ?_ ?_ ?_) (Br.a_ (λ_ _ _ _ _ _ us hl=>match us,hl with |[_,_],_=>rfl) ?_ ?_ ?_ ?_) (Br.a_ (λ_ _ _ _ _ _ us hl=>match us,hl with |[_,_],_=>rfl) ?_ ?_ ?_ ?_) (Br.a_ (λ_ _ _ _ _ _ us hl=>match us,hl with |[_],_=>rfl) ?_ ?_ ?_ ?_) (Br.a_ (λ_ _ _ _ _ _ us hl=>match us,hl with |[_,_,_,_],_=>rfl) ?_ ?_ ?_ ?_) (Br.a_ (λ_ _ _ _ _ _ us hl=>match us,hl with |[_,_],_=>rfl) ?_ ?_ ?_ ?_) (Br.a_ (λ_ _ _ _ _ _ us hl=>match us,hl with |[_,_],_=>rfl) ?_ ?_ ?_ ?_) (Br.a_ (λ_ _ _ _ _ _ us hl=>match us,hl with |[_,_],_=>rfl) ?_ ?_ ?_ ?_) (Br.a_ (λ_ _ _ _ _ _ us hl=>match us,hl with |[_,_],_=>rfl) ?_ ?_ ?_ ?_) (Br.a_ (λ_ _ _ _ _ _ us hl=>match us,hl with |[_,_],_=>rfl) ?_ ?_ ?_ ?_) (Br.a_ (λ_ _ _ _ _ _ us hl=>match us,hl with |[_,_],_=>rfl) ?_ ?_ ?_ ?_) (Br.a_ (λ_ _ _ _ _ _ us hl=>match us,hl with |[_],_=>rfl) ?_ ?_ ?_ ?_) (Br.jo ?_) (Br.jo ?_) (Br.jo ?_) (Br.jo ?_) (Br.jo ?_) (Br.jo ?_) (Br.jo ?_) (Br.jo ?_) (Br.jo ?_) (Br.jo ?_) (Br.jo ?_) (Br.jo ?_) (Br.jo ?_) (Br.jo ?_) (Br.jo ?_) (Br.jo ?_) (Br.cK ?_) (Br.cK ?_) (Br.cK ?_) (Br.cK ?_) (Br.cK ?_) (Br.cK ?_) (Br.cK ?_) (Br.cK ?_) (Br.cK ?_) (Br.cK ?_) (Br.cK ?_) (Br.cK ?_) (Br.cK ?_) (Br.cK ?_) (Br.cK ?_) (Br.cK ?_) (Br.cK ?_) (Br.cK ?_) (Br.cK ?_) (Br.cK ?_) (Br.cK ?_) (Br.cK ?_) (Br.cK ?_) (Br.cK ?_) (Br.cK ?_) (Br.cK ?_) (Br.cK ?_) (Br.cK ?_) (Br.cK ?_) (Br.cK ?_) (Br.cK ?_) (Br.cK ?_) (Br.cK ?_) (Br.cK ?_) (Br.cK ?_) (Br.cK ?_) (Br.cK ?_) (Br.cK ?_) (Br.cK ?_) (Br.cK ?_) (Br.aaP ?_) (Br.aaP ?_)) (Br.yS (λ_ _ _ _ _ _ us hl=>match us,hl with |[_],_=>rfl) ?_ ?_ ?_ ?_ ?_ ?_ ?_ ?_ ?_ ?_ ?_ ?_ (Br.gh ?_ (Br.gh ?_ (Br.gh ?_ (Br.gh ?_ (Br.gh ?_ (Br.gh ?_ (Br.gh ?_ Br.xB)))))))) (Br.yS (λ_ _ _ _ _ _ us hl=>match us,hl with |[_,_,_],_=>rfl) ?_ ?_ ?_ ?_ ?_ ?_ ?_ ?_ ?_ ?_ ?_ ?_ (Br.gh ?_ (Br.gh ?_ Br.xB))) (Br.yS (λ_ _ _ _ _ _ us hl=>match us,hl with |[_,_,_,_,_],_=>rfl) ?_ ?_ ?_ ?_ ?_ ?_ ?_ ?_ ?_ ?_ ?_ ?_ (Br.gh ?_ (Br.gh ?_ (Br.gh ?_ (Br.gh ?_ Br.xB))))) (Br.yS (λ_ _ _ _ _ _ us hl=>match us,hl with |[_,_],_=>rfl) ?_ ?_ ?_ ?_ ?_ ?_ ?_ ?_ ?_ ?_ ?_ ?_ (Br.gh ?_ (Br.gh ?_ (Br.gh ?_ (Br.gh ?_ Br.xB))))) (Br.yS (λ_ _ _ _ _ _ us hl=>match us,hl with |[_],_=>rfl) ?_ ?_ ?_ ?_ ?_ ?_ ?_ ?_ ?_ ?_ ?_ ?_ (Br.gh ?_ Br.xB)) (Br.yS (λ_ _ _ _ _ _ us hl=>match us,hl with |[_,_,_,_,_],_=>rfl) ?_ ?_ ?_ ?_ ?_ ?_ ?_ ?_ ?_ ?_ ?_ ?_ (Br.gh ?_ (Br.gh ?_ (Br.gh ?_ (Br.gh ?_ Br.xB))))) ?_ (Br.Qz ?_ ?nc1 ?nc2 ?nc3 ?nc4) ?_ (Br.Qz ?_ ?pw1 ?pw2 ?pw3 ?pw4) ?_ (Br.aiY ?_ ?on1 ?on2 ?on3 ?on4) (Br.aqi ?_ ?_ ?_ ?_ ?_ ?_ ?_ ?_ ?_ ?_ ?_ ?_ ?_ ?_) ?ht ?hn ?m9
  all_goals try k_is
  (case nc1=>rfl);(case nc2=>rfl);(case nc3=>decide);(case nc4=>exact .cons ⟨_,rfl⟩ (.cons ⟨_,rfl⟩ (.cons ⟨_,rfl⟩ (.cons ⟨_,rfl⟩ (.cons ⟨_,rfl⟩ (.cons ⟨_,rfl⟩ (.cons ⟨_,rfl⟩ (.cons ⟨_,rfl⟩ (.cons ⟨_,rfl⟩ (.cons ⟨_,rfl⟩ (.cons ⟨_,rfl⟩ (.cons ⟨_,rfl⟩ (.cons ⟨_,rfl⟩ (.cons ⟨_,rfl⟩ (.cons ⟨_,rfl⟩ .nil)))))))))))))))
  (case pw1=>rfl);(case pw2=>rfl);(case pw3=>decide);(case pw4=>exact .cons ⟨_,rfl⟩ (.cons ⟨_,rfl⟩ (.cons ⟨_,rfl⟩ .nil)))
  (case on1=>exact⟨rfl,rfl,rfl⟩);(case on2=>rfl);(case on3=>exact .cons ⟨rfl,⟨_,rfl⟩,rfl⟩ (.cons ⟨rfl,⟨_,rfl⟩,rfl⟩ (.cons ⟨rfl,⟨_,rfl⟩,rfl⟩ (.cons ⟨rfl,⟨_,rfl⟩,rfl⟩ (.cons ⟨rfl,⟨_,rfl⟩,rfl⟩ (.cons ⟨rfl,⟨_,rfl⟩,rfl⟩ (.cons ⟨rfl,⟨_,rfl⟩,rfl⟩ (.cons ⟨rfl,⟨_,rfl⟩,rfl⟩ (.cons ⟨rfl,⟨_,rfl⟩,rfl⟩ (.cons ⟨rfl,⟨_,rfl⟩,rfl⟩ (.cons ⟨rfl,⟨_,rfl⟩,rfl⟩ (.cons ⟨rfl,⟨_,rfl⟩,rfl⟩ (.cons ⟨rfl,⟨_,rfl⟩,rfl⟩ (.cons ⟨rfl,⟨_,rfl⟩,rfl⟩ .nil))))))))))))));(case on4=>decide)
  (case ht=>rfl);(case hn=>kernel_rfl);(case m9=>rfl)
end
section
local macro_rules|`($x:ident)=>Zt.zx x.getId
local macro_rules|`($x:ident $a*)=>do let t←Zt.zx x.getId;if t.raw.isOfKind ``Lean.Parser.Term.app then return t.raw.setArg 1 (Lean.mkNullNode (t.raw[1].getArgs++a)) else return Lean.Syntax.node .none ``Lean.Parser.Term.app #[t,Lean.mkNullNode a]
local macro_rules|`(tactic|ext $x:ident)=>Zt.zy x.getId
set_option maxRecDepth 100000
set_option maxHeartbeats 2000000
namespace Br
section
section
open Vbwbal (Plan Bytes Choice signer load goesWith)
theorem Dc(s:Nat):signer [] s=none:=rfl
theorem iV(y:Xr)(r:Choice)(s:Nat):Zp3 s=if y.1=s then some y.2 else signer r s:=by
 unfold signer;rw[oU];by_cases h:y.1=s
 ·rw[af h];have:(y.1==s)=true:=by simp[h]
  rw[this];rfl
 ·rw[ae h];have:(y.1==s)=false:=by simp[h]
  rw[this]
theorem nW:∀{c:Choice} {s x:Nat},ZW s=some x->(s,x)∈c
 |[],s,x,h=>by rw[Dc]at h;cases h
 |y::r,s,x,h=>by
  rw[iV]at h;ext Z
  ·rw[af e]at h;have:y=(s,x):=by rw[←e,←bY h]
   rw[this];exact aY
  ·rw[ae e]at h;exact ZE (nW h)
theorem zR:∀{c:Choice} {s:Nat},ZW s=none↔s∉c.map Zg
 |[],s=>by simp[Dc]
 |y::r,s=>by
  rw[iV,cw,aJ];ext Z
  ·rw[af e];exact⟨λh=>Ve,λh=>absurd (Or.inl e.symm) h⟩
  ·rw[ae e,zR];exact⟨λh q=>q.elim (λz=>e z.symm) h,λh q=>h (Or.inr q)⟩
theorem w4:∀{c:Choice} {s x:Nat},(c.map Zg).Nodup ->(s,x)∈c->ZW s=some x
 |y::r,s,x,hn,h=>by
  ext t;rw[iV];rcases aJ.mp h with e|e
  ·rw[←e,af rfl]
  ·have:¬y.1=s:=λq=>h1 (by show y.1∈_;rw[q];exact aN.mpr Zdd);rw[ae this];exact w4 h2 e
theorem uP(y:Xr)(r:Choice)(x:Nat):load (y::r) x=(if y.2=x then 1 else 0)+load r x:=by
 unfold load;rw[jf];by_cases h:y.2=x
 ·have:(y.2==x)=true:=by simp[h]
  rw[af this,af h,bb];omega
 ·have:¬(y.2==x)=true:=by simp[h]
  rw[ae this,ae h];omega
theorem adY(p:ZbN)(q:ZbN)(a:Nat)(h:∀s,s≠a->p s=q s)(hq:q a=false):∀n,(List.range n).countP p=(if p a=true/\a<n then 1 else 0)+(List.range n).countP q
 |0=>by simp
 |n+1=>by
  rw[Cj,Cs,Cs,adY p q a h hq n];by_cases e:n=a
  ·subst e;rw[Pd,Pd,hq];simp;omega
  ·rw[Pd,Pd,h n e];have:(a<n+1)↔(a<n):=by omega
   simp only[this];omega
theorem abd:∀(c:Choice) (x n:Nat),(c.map Zg).Nodup ->(∀y∈c,y.1<n)->(List.range n).countP (λs=>ZW s==some x)=Yx x
 |[],x,n,_,_=>by
  have:(λs=>signer [] s==some x)=λ_=>false:=by funext s;rfl
  rw[this];show List.countP (λ_=>false) _=0;rw[List.countP_false];rfl
 |y::r,x,n,hn,hl=>by
  ext t;have ih:=abd r x n h2 λz hz=>hl z ZgS;rw[adY (λs=>Zp3 s==some x) (λs=>signer r s==some x) y.1 (λs hs=>by
   show(signer (y::r) s==some x)=_;rw[iV,ae (λq=>hs q.symm)]) (by
   show(signer r y.1==some x)=false;rw[zR.mpr h1];rfl) n,ih,uP]
  congr 1;have bG:=hl y aY;have e:(Zp3 y.1==some x)=decide (y.2=x):=by
   rw[iV,af rfl];by_cases h:y.2=x
   ·simp[h]
   ·simp[h]
  simp only[e,bX,bG,yU]
def bw(ps:ZV)(s:Nat):Za:=ps.flatMap λp=>(if p.1=s then [p.2]else [])++(if p.2=s then [p.1]else [])
theorem gC{ps:ZV}{s t:Nat}:t∈bw ps s↔(s,t)∈ps∨(t,s)∈ps:=by
 unfold bw;rw[wg];ext b
 ·rintro⟨p,hp,h⟩;rcases b8.mp h with h|h
  ·by_cases e:p.1=s
   ·rw[af e,bo]at h;left;rw[h,←e];exact hp
   ·rw[ae e]at h;cases h
  ·by_cases e:p.2=s
   ·rw[af e,bo]at h;right;rw[h,←e];exact hp
   ·rw[ae e]at h;cases h
 ·rintro(h|h)
  ·exact⟨_,h,mz _ Zh⟩
  ·exact⟨_,h,je _ Zh⟩
def ki(ps:ZV)(c:Choice)(s:Nat):Za:=(bw ps s).filterMap ZW
theorem xH{ps:ZV}{c:Choice}{s x:Nat}:x∈ki ps c s↔∃t,((s,t)∈ps∨(t,s)∈ps)/\ZW t=some x:=by
 unfold ki;rw[G9];ext b
 ·rintro⟨t,h,e⟩;exact⟨t,gC.mp h,e⟩
 ·rintro⟨t,h,e⟩;exact⟨t,gC.mpr h,e⟩
theorem nv(P:Plan)(c:Choice)(s x:Nat):YO x=true↔
  (x∉ki P.unlike c s)/\(∀y∈Zdl s,y=x)/\Yx x<((P.persons[x]?).map λy=>y.most).getD 0:=by
 unfold goesWith;rw[aP,aP,dh,dh,bX];refine F6 ?_ (F6 ?_ di)
 ·rw[xH];ext b
  ·rintro h ⟨t,ht,e⟩;rcases ht with ht|ht
   ·ext ax
   ·ext ax
  ·intro h y hy;rw[aP,wF,wF,zy,zy];ext b
   ·ext Z
    ·right;by_cases e2:ZW y.2=some x
     ·exact absurd Zsw h
     ·simpa using e2
    ·ext aN
   ·by_cases e:y.2=s
    ·right;by_cases e2:ZW y.1=some x
     ·exact absurd Zsv h
     ·simpa using e2
    ·ext aN
 ·ext b
  ·intro h z hz;obtain⟨t,ht,e⟩:=xH.mp hz;rcases ht with ht|ht
   ·ext ax;exact this.1
   ·ext ax;exact this.2
  ·intro h y hy;rw[aP,wF,wF,zy,zy];ext b
   ·ext Z
    ·right;cases e2:ZW y.2 with
     |none=>rfl
     |some z=>
      have:=h z (xH.mpr Zsw);simp[this]
    ·ext aN
   ·by_cases e:y.2=s
    ·right;cases e2:ZW y.1 with
     |none=>rfl
     |some z=>
      have:=h z (xH.mpr Zsv);simp[this]
    ·ext aN
end
section
open Vbwbal (Plan Bytes Choice signer load goesWith fits unsigned complete canEnd completion)
abbrev cz:=List Zay
def cy(P:Plan)(x:Nat):Nat:=((P.persons[x]?).map λy=>y.most).getD 0
def bR(P:Plan)(ab:Za)(c:Choice)(s:Nat):Za:=(List.range P.persons.length).filter λx=>YD x&&YO x
def c_(P:Plan)(ab:Za)(c:Choice):cz:=(Z9 c).map λs=>(s,ZJ s)
def kJ(o:cz)(s x:Nat):cz:=o.map λp=>if p.1=s then(s,[x])else p
def fE(o:cz)(s:Nat):Za:=((o.find? λp=>p.1==s).map Z1).getD []
def km(o:cz)(ss:Za):cz:=ss.map λs=>(s,Y1 s)
def jQ(o:cz)(xs:Za):cz:=o.map λp=>ZsW
theorem lX(P:Plan)(c:Choice):(Z9 c).Nodup :=by unfold unsigned;exact(aft).filter _
theorem Eu(P:Plan)(c:Choice):(Z9 c).length <=P.steps.length:=by unfold unsigned;exact Zbc
theorem xF{P:Plan}{c:Choice}{s:Nat}:s∈Z9 c↔s<P.steps.length/\ZW s=none:=by unfold unsigned;rw[bD,dS,Option.isNone_iff_eq_none]
theorem Nr{P:Plan}{ab:Za}{s x:Nat}(h:YD x=true):ab.contains x=false:=by
 unfold fits at h;split at h
 ·rw[aP,wF]at h;exact h.1
 ·cases h
def keys(o:cz):Za:=o.map Zg
structure Fills(P:Plan)(o:cz)(rooms:YX)(g:UM):Prop where
 opt:∀p∈o,g p.1∈p.2
 unlike:∀s t,(s,t)∈P.unlike->s∈keys o->t∈keys o->g s≠g t
 alike:∀s t,(s,t)∈P.alike->s∈keys o->t∈keys o->g s=g t
 room:∀x,(((keys o).countP λs=>g s==x:Nat):Int)<=rooms x
def Sat(P:Plan)(o:cz)(rooms:YX):Prop:=∃g,Fills P o rooms g
def pL(P:Plan)(step x:Nat)(full:Bool)(t:Nat)(l:Za):Za:=
 let l1:=if(Xx step).contains t=true then l.filter ZqP else l
 if((Y7 step).contains t||full)=true then l1.filter Zdg else l1
def behind(P:Plan)(o:cz)(step x:Nat)(full:Bool):cz:=(o.filter λp=>p.1 != step).map λp=>(p.1,Zf7 full p.1 p.2)
theorem uN{P:Plan}{step x:Nat}{full:Bool}{t y:Nat}{l:Za}:y∈Zf7 full t l↔
  y∈l/\(t∈Xx step->y=x)/\(t∈Y7 step∨full=true->y≠x):=by
 unfold pL;by_cases h1:t∈Xx step
 ·ext cW;ext aj
  ·have e2:((Y7 step).contains t||full)=true:=by rw[h_];exact ZhP
   simp only[e1,e2,iD,bD,h1,h2,zG,oO,vO,ne_eq];exact and_assoc
  ·have e2:((Y7 step).contains t||full)=false:=by
    rw[PF];exact⟨by
     cases e:(Y7 step).contains t with
     |false=>rfl
     |true=>exact ZhE,by
     cases e:full with
     |false=>rfl
     |true=>exact absurd (Or.inr e) h2⟩
   simp only[e1,e2,iD,bD,h1,h2,zG,oO,kf,i5,Bv,yU]
 ·have e1:(Xx step).contains t=false:=by
   cases e:(Xx step).contains t with
   |false=>rfl
   |true=>exact Zox h1
  ext aj
  ·have e2:((Y7 step).contains t||full)=true:=by rw[h_];exact ZhP
   simp only[e1,e2,iD,bD,h1,h2,zG,vO,ne_eq,kf,i5,Bv,true_and]
  ·have e2:((Y7 step).contains t||full)=false:=by
    rw[PF];exact⟨by
     cases e:(Y7 step).contains t with
     |false=>rfl
     |true=>exact ZhE,by
     cases e:full with
     |false=>rfl
     |true=>exact absurd (Or.inr e) h2⟩
   simp only[e1,e2,h1,h2,kf,i5,Bv,yU]
theorem AI(P:Plan)(o:cz)(step x:Nat)(full:Bool):keys (Zmw full)=(keys o).filter λs=>s != step:=by unfold keys behind;rw[bz,wm];rfl
def less(rooms:YX)(x:Nat):Nat->Int:=λy=>if y=x then rooms y-1 else rooms y
theorem count_filter{l:Za}{step:Nat}(hn:l.Nodup)(hm:step∈l)(p:ZbN):l.countP p=(if p step=true then 1 else 0)+(l.filter λs=>s != step).countP p:=by
 induction l with
 |nil=>cases hm
 |cons a r ih=>
  ext t;rw[Pe,jf];by_cases e:a=step
  ·subst e;have e2:∀l':List Nat,a∉l'->l'.filter (λs=>s != a)=l':=λl' h=>Pc.mpr λs hs=>by rw[vO];exact λq=>h (q▸hs)
   have e3:¬(a != a)=true:=by simp
   rw[ae e3,e2 r h1];omega
  ·have kG:step∈r:=(aJ.mp hm).resolve_left λq=>UC;have e3:(a != step)=true:=by simpa using e
   rw[af e3,Pe,ih h2 kG];omega
theorem sat_empty(P:Plan)(rooms:YX)(h:ZoH):Sat P [] rooms:=
 ⟨λ_=>0,⟨λp hp=>(by cases hp),λs t _ hs _=>(by cases hs),λs t _ hs _=>(by cases hs),λx=>(by simpa[keys]using h x)⟩⟩
theorem To(P:Plan)(o:cz)(rooms:YX)(hn:Zfu)(aK:Zba){step:Nat}{l:Za}(hs:(step,l)∈o)(hr:∀x∈l,0<rooms x)(h0:ZoH):
  Sat P o rooms↔∃x∈l,W5 ZuB ZpV:=by
 have hk:step∈keys o:=aN.mpr ⟨_,hs,rfl⟩;ext b
 ·rintro⟨g,hg⟩;refine⟨g step,hg.opt _ hs,g,?_⟩;have yh:∀x,(keys o).countP (λs=>g s==x)=(if(g step==x)=true then 1 else 0)+((keys o).filter λs=>s != step).countP (λs=>g s==x):=λx=>count_filter hn hk _;refine⟨λp hp=>?_,λs t h1 h2 h3=>?_,λs t h1 h2 h3=>?_,λx=>?_⟩
  ·ext aw;obtain⟨i7,ng⟩:=bD.mp hq;have hq3:q.1≠step:=by simpa using ng
   have AX:q.1∈keys o:=aN.mpr ⟨_,i7,rfl⟩;refine uN.mpr ⟨hg.opt q i7,λh=>?_,λh=>?_⟩
   ·rcases gC.mp h with h|h
    ·exact(hg.alike _ _ h hk AX).symm
    ·exact hg.alike _ _ h AX hk
   ·rcases h with h|h
    ·rcases gC.mp h with h|h
     ·exact λe=>hg.unlike _ _ h hk AX e.symm
     ·exact hg.unlike _ _ h AX hk
    ·intro e;have hf:rooms (g step)-1=0:=lW h;have h5:=hg.room (g step);rw[yh,af Zh]at h5;have h6:0<((keys o).filter λs=>s != step).countP (λs=>g s==g step):=
      List.countP_pos_iff.mpr ⟨q.1,bD.mpr ⟨AX,ng⟩,Zdn⟩
     omega
  ·rw[AI]at h2 h3;exact hg.unlike s t h1 (bD.mp h2).1 (bD.mp h3).1
  ·rw[AI]at h2 h3;exact UB h1 (bD.mp h2).1 (bD.mp h3).1
  ·rw[AI];have h5:=ZkJ;rw[yh]at h5;unfold less;by_cases e:x=g step
   ·ext x;rw[af Zh]at h5;omega
   ·rw[ae e];rw[ae Zvu]at h5;omega
 ·rintro⟨x,hx,g,hg⟩;refine⟨λs=>if s=step then x else g s,?_⟩;have kb:∀s,s∈keys o->s≠step->s∈keys ZuB:=λs hs aK=>by rw[AI];exact bD.mpr ⟨hs,by simpa using aK⟩
  have inl:∀p,p∈o->p.1≠step->g p.1∈Zf7 (decide (rooms x-1=0)) p.1 p.2:=λp hp aK=>hg.opt (p.1,Zf7 _ p.1 p.2) (aN.mpr ⟨p,bD.mpr ⟨hp,by simpa using aK⟩,rfl⟩);have alO:∀(l1:List Zay) (p q:Zay),(l1.map Zg).Nodup ->p∈l1->q∈l1->p.1=q.1->p=q:=by
   intro l1
   induction l1 with
   |nil=>intro p q _ hp;cases hp
   |cons a r ih=>
    intro p q hn hp hq e;ext t;rcases aJ.mp hp with e1|E4
    ·rcases aJ.mp hq with e2|cF
     ·rw[e1,e2]
     ·exact absurd (show a.1∈r.map Zg from aN.mpr ⟨q,cF,by rw[←e,e1]⟩) h1
    ·rcases aJ.mp hq with e2|cF
     ·exact absurd (show a.1∈r.map Zg from aN.mpr ⟨p,E4,by rw[e,e2]⟩) h1
     ·exact ih p q h2 E4 cF e
  refine ZrA
  ·show(if p.1=step then x else g p.1)∈p.2;by_cases e:p.1=step
   ·rw[af e,alO o p (step,l) hn hp hs e];exact hx
   ·rw[ae e];exact(uN.mp (inl p hp e)).1
  ·show(if s=step then x else g s)≠(if t=step then x else g t);ext b6
   ·have et:t≠step:=λq=>aK (s,t) (.inl h1) (es.trans q.symm);rw[af es,ae et];have:=(uN.mp ZtP).2.2 (.inl (by rw[oI];exact Ztf));rw[oI]at this;exact λq=>this q.symm
   ·rw[ae es];by_cases et:t=step
    ·rw[af et];have:=(uN.mp ZtO).2.2 (.inl (by rw[kL];exact Ztg));rw[kL]at this;ext d
    ·rw[ae et];exact ZcX (kb s h2 es) (kb t h3 et)
  ·show(if s=step then x else g s)=(if t=step then x else g t);ext b6
   ·have et:t≠step:=λq=>aK (s,t) (.inr h1) (es.trans q.symm);rw[af es,ae et];have:=(uN.mp ZtP).2.1 (by rw[oI];exact Ztf);rw[oI]at this;exact this.symm
   ·rw[ae es];by_cases et:t=step
    ·rw[af et];have:=(uN.mp ZtO).2.1 (by rw[kL];exact Ztg);rw[kL]at this;ext d
    ·rw[ae et];exact UB h1 (kb s h2 es) (kb t h3 et)
  ·have h5:=hg.room y;rw[AI]at h5;rw[count_filter hn hk];have e1:((keys o).filter λs=>s != step).countP (λs=>(if s=step then x else g s)==y)=((keys o).filter λs=>s != step).countP Zda:=by
    refine List.countP_congr λs hs=>?_;have:s≠step:=by simpa using(bD.mp hs).2
    rw[ae this]
   rw[e1,af rfl];unfold less at h5;ext u
   ·subst e;rw[af rfl]at h5;rw[af Zh];omega
   ·rw[ae e]at h5;rw[ae Zvu];omega
theorem avz{P:Plan}{o:cz}{rooms:YX}{step x:Nat}(hr:∀p∈o,∀y∈p.2,0<rooms y)(hx:0<rooms x):∀p∈Zmw (decide (rooms x-1=0)),∀y∈p.2,0<ZpV y:=by
 intro p hp y hy;ext aw;obtain⟨i7,_⟩:=bD.mp hq;obtain⟨h1,h2,h3⟩:=uN.mp hy;have h4:=hr q i7 y h1;unfold less;ext u
 ·ext x;by_cases hf:rooms y-1=0
  ·exact absurd rfl (h3 (.inr (bu hf)))
  ·omega
 ·rw[ae e];exact h4
theorem atU{rooms:YX}{x:Nat}(h:∀y,0<=rooms y)(hx:0<rooms x):∀y,0<=ZpV y:=λy=>by
 unfold less;ext u
 ·ext x;omega
 ·rw[ae e];exact h y
def eD(P:Plan)(c:Choice):Nat->Int:=λx=>(cy P x:Int)-(load c x:Int)
theorem nV{c:Choice}{s x t:Nat}(h:ZbO):signer Yi t=if t=s then some x else ZW t:=by
 induction c with
 |nil=>
  rw[my,iV,Dc];by_cases e:t=s
  ·rw[af e,af e.symm]
  ·rw[ae e,ae Zgc]
 |cons y r ih=>
  rw[iV]at h;by_cases e0:y.1=s
  ·rw[af e0]at h;cases h
  ·rw[ae e0]at h;rw[oV,iV,iV,ih h];by_cases e1:y.1=t
   ·rw[af e1,af e1];have:¬t=s:=λq=>e0 (e1.trans q);rw[ae this]
   ·rw[ae e1,ae e1]
theorem rL(c:Choice)(s x y:Nat):load Yi y=Yx y+(if x=y then 1 else 0):=by
 induction c with
 |nil=>
  rw[my,uP];show(if x=y then 1 else 0)+0=0+(if x=y then 1 else 0);omega
 |cons a r ih=>
  rw[oV,uP,uP,ih];omega
theorem JV(P:Plan)(c:Choice)(s x:Nat):eD P Yi=less Xh x:=by
 funext y;show(cy P y:Int)-(load Yi y:Int)=if y=x then((cy P y:Int)-(load c y:Int))-1 else(cy P y:Int)-(load c y:Int)
 rw[rL];ext u
 ·subst e;rw[af rfl,af rfl];omega
 ·rw[ae Zgc,ae e];omega
theorem agx(P:Plan)(c:Choice)(s x:Nat)(h:ZbO):Z9 Yi=(Z9 c).filter λt=>t != s:=by
 unfold unsigned;rw[qv];refine nH λt _=>?_;rw[nV h];by_cases e:t=s
 ·rw[af e];simp[e]
 ·rw[ae e];simp[e]
theorem xq{ps:ZV}{c:Choice}{s x t y:Nat}(h:ZbO)(ht:t≠s):y∈ki ps Yi t↔y∈ki ps c t∨(t∈bw ps s/\y=x):=by
 rw[xH,xH,gC];ext b
 ·rintro⟨u,hu,e⟩;rw[nV h]at e;by_cases eu:u=s
  ·rw[af eu]at e;refine .inr ⟨?_,(bY e).symm⟩;rw[eu]at hu;exact hu.symm
  ·rw[ae eu]at e;exact .inl ⟨u,hu,e⟩
 ·rintro(⟨u,hu,e⟩|⟨hu,e⟩)
  ·refine⟨u,hu,?_⟩;rw[nV h];have:¬u=s:=λq=>by rw[q,h]at e;cases e
   rw[ae this];exact e
  ·refine⟨s,hu.symm,?_⟩;rw[nV h,af rfl,e]
theorem Fy{P:Plan}{c:Choice}{s x t y:Nat}(h:ZbO)(ht:t≠s)(hx:ZjF):W7 Yi t y=true↔
  goesWith P c t y=true/\(t∈Xx s->y=x)/\(t∈Y7 s∨Xh x-1=0->y≠x):=by
 rw[nv,nv];have hl:=rL c s x y;have hm:((P.persons[y]?).map λz=>z.most).getD 0=YE y:=rfl;rw[hm,hl];unfold eD;ext b
 ·rintro⟨h1,h2,h3⟩;refine⟨⟨λq=>h1 ((xq h ht).mpr Wc),λz hz=>h2 z ((xq h ht).mpr (.inl hz)),?_⟩,λq=>?_,λq e=>?_⟩
  ·split at h3<;>omega
  ·exact(h2 x ((xq h ht).mpr (.inr Zj1))).symm
  ·rcases q with q|q
   ·exact h1 ((xq h ht).mpr (.inr ⟨q,e⟩))
   ·subst e;rw[af rfl]at h3;omega
 ·rintro⟨⟨h1,h2,h3⟩,h4,h5⟩;refine⟨λq=>?_,λz hz=>?_,?_⟩
  ·rcases(xq h ht).mp q with q|⟨q,e⟩
   ·exact h1 q
   ·exact h5 Wc e
  ·rcases(xq h ht).mp hz with q|⟨q,e⟩
   ·exact h2 z q
   ·rw[e];exact(h4 q).symm
  ·by_cases e:x=y
   ·ext x;have:¬((cy P x:Int)-(load c x:Int)-1=0):=λq=>h5 (.inr q) rfl;omega
   ·rw[ae e];omega
theorem alz(P:Plan)(step x:Nat)(full:Bool)(t:Nat)(l:Za):Zf7 full t l=l.filter λy=>decide ((t∈Xx step->y=x)/\(t∈Y7 step∨full=true->y≠x)):=by
 unfold pL;by_cases h1:t∈Xx step
 ·ext cW;ext aj
  ·have e2:((Y7 step).contains t||full)=true:=by rw[h_];exact ZhP
   simp only[e1,e2,iD,qv,h1,h2,zG];refine nH λy _=>?_;by_cases e:y=x<;>simp[e]
  ·have e2:((Y7 step).contains t||full)=false:=by
    rw[PF];exact⟨by
     cases e:(Y7 step).contains t with
     |false=>rfl
     |true=>exact ZhE,by
     cases e:full with
     |false=>rfl
     |true=>exact absurd (Or.inr e) h2⟩
   simp only[e1,e2,iD,kf,i5,h1,h2,zG,Bv,yU];refine nH λy _=>?_;by_cases e:y=x<;>simp[e]
 ·have e1:(Xx step).contains t=false:=by
   cases e:(Xx step).contains t with
   |false=>rfl
   |true=>exact Zox h1
  ext aj
  ·have e2:((Y7 step).contains t||full)=true:=by rw[h_];exact ZhP
   simp only[e1,e2,iD,kf,i5,h1,h2,zG,Bv,true_and];refine nH λy _=>?_;by_cases e:y=x<;>simp[e]
  ·have e2:((Y7 step).contains t||full)=false:=by
    rw[PF];exact⟨by
     cases e:(Y7 step).contains t with
     |false=>rfl
     |true=>exact ZhE,by
     cases e:full with
     |false=>rfl
     |true=>exact absurd (Or.inr e) h2⟩
   simp only[e1,e2,kf,i5,h1,h2,Bv,yU,decide_true];exact(Pc.mpr λ_ _=>rfl).symm
def fq(P:Plan)(ab:Za)(q:VF)(l:Za)(c:Choice):cz:=l.map λt=>(t,(ZJ t).filter (q t))
theorem uT(P:Plan)(ab:Za)(q:VF)(l:Za)(c:Choice):keys ZjL=l:=by unfold keys fq;rw[bz];exact ZgQ
theorem aek{P:Plan}{ab:Za}{q:VF}{l:Za}{c:Choice}{s x:Nat}(h:ZbO)(hx:ZjF):
  behind P ZjL s x (decide (Xh x-1=0))=Wd q (l.filter λt=>t != s) Yi:=by
 unfold behind fq;rw[wm,bz];refine gv λt ht=>?_;have AQ:t≠s:=by simpa using(bD.mp ht).2
 show(t,pL P s x _ t ((ZJ t).filter (q t)))=(t,(bR P ab Yi t).filter (q t));rw[alz];unfold bR;rw[qv,qv,qv];congr 1;refine nH λy _=>?_;have hg:=Fy (P:=P) (y:=y) h AQ hx;rw[iS];simp only[aP,bX];rw[hg];constructor
 ·rintro⟨⟨r,b⟩,f1,g1⟩;exact⟨b,f1,g1,r⟩
 ·rintro⟨b,f1,g1,r⟩;exact⟨⟨r,b⟩,f1,g1⟩
def fk(P:Plan)(ab:Za)(q:VF):Za->Choice->Option Choice
 |[],c=>some c
 |s::r,c=>(List.range P.persons.length).findSome? λx=>if(YD x&&YO x&&q s x)=true then Wv q r Yi else none
theorem yQ(P:Plan)(ab:Za):∀(l:Za) (c:Choice),Wv Zbp l c=YW l c
 |[],c=>rfl
 |s::r,c=>by unfold fk complete;congr 1;funext x;rw[wG,yQ P ab r]
theorem ue(P:Plan)(ab:Za)(q:VF)(aK:Zba):∀(l:Za) (c:Choice),l.Nodup->(∀s∈l,ZW s=none)->(∀x,Yx x<=YE x)->
  (W5 ZjL Xh↔(Wv q l c).isSome =true)
 |[],c,_,_,hr=>by refine⟨λ_=>rfl,λ_=>sat_empty P _ λx=>?_⟩;have:=hr x;unfold eD;omega
 |s::r,c,hn,hs,hr=>by
  obtain⟨kF,fH⟩:=Zb7;have fX:=hs s aY;have Lv:∀(x:Nat),YO x=true->Yx x<YE x:=λx hx=>((Zd0 x).mp hx).2.2;have h0:∀x,0<=Xh x:=λx=>by have:=hr x;unfold eD;omega
  have hm:(s,(ZJ s).filter (q s))∈Wd q Za3 c:=aN.mpr ⟨s,aY,rfl⟩;have jA:∀x,x∈(ZJ s).filter (q s)↔x<P.persons.length/\(YD x&&YO x&&q s x)=true:=λx=>by unfold bR;rw[bD,bD,dS,aP (YD x&&YO x),and_assoc]
  have jw:∀x∈(ZJ s).filter (q s),Yx x<YE x:=λx hx=>by have:=((jA x).mp hx).2;rw[aP,aP]at this;exact Lv x this.1.2
  rw[To P _ _ (by rw[uT];exact hn) aK hm (λx hx=>by have:=jw x hx;unfold eD;omega) h0]
  have anq:(s::r).filter (λt=>t != s)=r:=by rw[jf,ae Zh];exact Pc.mpr λt ht=>by rw[vO];exact λe=>kF (e▸ht)
  have key:∀x,x∈(ZJ s).filter (q s)->(W5 (behind P (Wd q Za3 c) s x (decide (Xh x-1=0))) (less Xh x)↔(Wv q r Yi).isSome =true):=λx hx=>by
   have ku:=jw x hx;rw[aek fX ku,anq,←JV P c s x];refine ue P ab q aK r Yi fH (λt ht=>?_) (λy=>?_)
   ·have AQ:¬t=s:=λe=>kF (by rw[←e];exact ht);rw[nV fX,ae AQ];exact hs t ZkS
   ·rw[rL];have:=hr y;by_cases e:x=y
    ·ext x;omega
    ·rw[ae e];omega
  unfold fk;rw[atn];ext b
  ·rintro⟨x,hx,h⟩;refine⟨x,dS.mpr ((jA x).mp hx).1,?_⟩;rw[af ((jA x).mp hx).2];exact(key x hx).mp h
  ·rintro⟨x,hx,h⟩;by_cases hc:(YD x&&YO x&&q s x)=true
   ·rw[af hc]at h;have ot:=(jA x).mpr ⟨dS.mp hx,hc⟩;exact⟨x,ot,(key x ot).mpr h⟩
   ·rw[ae hc]at h;cases h
end
section
open Vbwbal (Plan Bytes Choice signer load goesWith fits unsigned complete canEnd completion choose subsets)
theorem FN{α β:Type}{f g:α->Wz}:∀{l:ZN},(∀a∈l,f a=g a)->l.flatMap f=l.flatMap g
 |[],_=>rfl
 |a::r,h=>by rw[iR,iR,h a aY,FN λb hb=>h b Za1]
def above(ch:Za)(m:Nat):Bool:=ch.isEmpty||decide (ch.getLastD 0<m)
def lh(iM:Yq)(ms:Za):Yq:=iM.flatMap λch=>(ms.filter Wb).map λm=>ch++[m]
theorem nA(l:Za):choose 0 l=[[]]:=by cases l<;>rfl
theorem vM:∀(k:Nat) (l ch:Za),ch∈Wu l->(∀x∈ch,x∈l)/\ch.length=k
 |0,l,ch,h=>by rw[nA,bo]at h;subst h;exact⟨λx hx=>(by cases hx),rfl⟩
 |k+1,[],ch,h=>by cases h
 |k+1,x::r,ch,h=>by
  rcases b8.mp h with h|h
  ·ext bw;obtain⟨h1,h2⟩:=vM k r c hc;refine⟨λy hy=>?_,by rw[bb,h2]⟩;rcases aJ.mp hy with e|e
   ·rw[e];exact aY
   ·exact ZE (h1 y e)
  ·obtain⟨h1,h2⟩:=vM YQ r ch h;exact⟨λy hy=>ZE (h1 y hy),h2⟩
theorem Mw:∀(l:Za) (d:Nat),l≠[]->l.getLastD d∈l
 |[],_,h=>absurd rfl h
 |[a],_,_=>bo.mpr rfl
 |a::b::r,d,_=>ZE (Mw (b::r) a Zh)
theorem getLastD_cons(x:Nat)(ch:Za)(h:ch≠[]):(x::ch).getLastD 0=ch.getLastD 0:=by
 cases ch with
 |nil=>exact absurd rfl h
 |cons a r=>rfl
theorem aaK:∀(l:Za),Zc9->∀k,lh (Wu l) l=Zdz l
 |[],_,k=>by
  cases k with
  |zero=>rfl
  |succ k=>rfl
 |x::r,hp,k=>by
  obtain⟨hx,hr⟩:=Ck.mp hp;have ih:=aaK r hr;cases k with
  |zero=>
   rw[nA];show lh [[]] (x::r)=(choose 0 r).map ZbJ++choose 1 r;rw[←ih 0,nA];unfold lh;simp[above]
  |succ k=>
   show lh ((Wu r).map ZbJ++Zdz r) (x::r)=(Zdz r).map ZbJ++choose (k+2) r;rw[←ih YQ]
   conv=>rhs;lhs;rw[←ih k]
   unfold lh;rw[oT,List.flatMap_map,O6];congr 1
   ·refine FN λch gW=>?_;obtain⟨hm,_⟩:=vM k r ch gW;rw[bz,jf];have u6:¬above (x::ch) x=true:=by
     unfold above;rw[h_,bX];rintro(h|h)
     ·cases h
     ·by_cases e:ch=[]
      ·subst e;exact Vu h
      ·rw[getLastD_cons x ch e]at h;have:=hx _ (hm _ (Mw ch 0 e));omega
    rw[ae u6];have hf:r.filter (above (x::ch))=r.filter Wb:=by
     refine nH λm kG=>?_;unfold above;by_cases e:ch=[]
     ·subst e;have:=hx m kG;simp[this]
     ·rw[getLastD_cons x ch e];have e2:ch.isEmpty=false:=by
       cases ch with
       |nil=>exact absurd rfl e
       |cons a b=>rfl
      rw[e2];rfl
    rw[hf];rfl
   ·refine FN λch gW=>?_;obtain⟨hm,hl⟩:=vM YQ r ch gW;have aK:ch≠[]:=λe=>by rw[e]at hl;cases hl
    rw[jf];have u6:¬Wb x=true:=by
     unfold above;rw[h_,bX];rintro(h|h)
     ·exact aK (Ha.mp h)
     ·have:=hx _ (hm _ (Mw ch 0 aK));omega
    rw[ae u6]
theorem FX:∀(l:Za) (k:Nat),l.length<k->Wu l=[]
 |[],k+1,_=>rfl
 |x::r,k+1,h=>by have h':r.length<k:=Nat.lt_of_succ_lt_succ h;show(Wu r).map ZbJ++Zdz r=[];rw[FX r k h',FX r YQ Zb];rfl
theorem ad8:∀(l:Za) (k:Nat),k<=l.length->Wu l≠[]
 |l,0,_=>by rw[nA];simp
 |x::r,k+1,h=>by have:=ad8 r k (Nat.le_of_succ_le_succ h);show(Wu r).map ZbJ++Zdz r≠[];intro e;exact this (O7.mp (List.append_eq_nil_iff.mp e).1)
theorem FY:∀(l:Za) (k:Nat),(Wu l).length <=2 ^ l.length
 |l,0=>by rw[nA];exact Nat.one_le_two_pow
 |[],k+1=>ZI
 |x::r,k+1=>by show((Wu r).map ZbJ++Zdz r).length <=2 ^ (r.length+1);rw[bS,aq,Nat.pow_succ];have h1:=FY r k;have h2:=FY r YQ;omega
theorem N3:∀(k:Nat) (l ch:Za),l.Nodup->ch∈Wu l->ch.Nodup
 |0,l,ch,_,h=>by rw[nA,bo]at h;subst h;exact sV
 |k+1,[],ch,_,h=>by cases h
 |k+1,x::r,ch,hn,h=>by
  ext t;rcases b8.mp h with h|h
  ·ext bw;exact df.mpr ⟨λq=>h1 ((vM k r c hc).1 x q),N3 k r c h2 hc⟩
  ·exact N3 YQ r ch h2 h
def levels(l:Za)(n:Nat):Yq:=(List.range n).flatMap λk=>Wu l
theorem abr(l:Za)(n:Nat):levels l Wi=levels l n++VX l:=by unfold levels;rw[Cj,oT];simp
theorem als(l:Za):levels l (l.length+1)=subsets l:=rfl
theorem K4(l:Za):∀n,(levels l n).length <=n*2 ^ l.length
 |0=>by simp[levels]
 |n+1=>by rw[abr,bS,Nat.succ_mul];have h1:=K4 l n;have h2:=FY l n;omega
theorem zM{l ch:Za}(h:Zpq):(∀x∈ch,x∈l)/\ch.length<=l.length:=by unfold subsets at h;obtain⟨k,hk,h⟩:=wg.mp h;obtain⟨h1,h2⟩:=vM k l ch h;have:=dS.mp hk;exact⟨h1,Zb⟩
theorem Ic{l ch:Za}(hn:l.Nodup)(h:Zpq):ch.Nodup:=by unfold subsets at h;obtain⟨k,hk,h⟩:=wg.mp h;exact N3 k l ch hn h
end
section
open Vbwbal (Plan Bytes Choice signer load goesWith fits unsigned complete canEnd completion)
def cI(a b:Za):Bool:=a.any λm=>b.contains m
theorem ub{a b:Za}:cI a b=true↔∃m∈a,m∈b:=by unfold cI;rw[afN];exact⟨λ⟨m,h,e⟩=>⟨m,h,bx.mp e⟩,λ⟨m,h,e⟩=>⟨m,h,bx.mpr e⟩⟩
def sP(P:Plan)(ls:Yq)(s:Nat):Yq:=
 (ls.filter λL=>!cI L Zea)++[s::(ls.filter λL=>VI).flatten]
def kN(P:Plan)(ss:Za):Yq:=ss.foldl (sP P) []
def ia(P:Plan)(ss:Za):Za:=ss.flatMap Y7
theorem Aw{P:Plan}{ss:Za}{t:Nat}:t∈ia P ss↔∃s∈ss,(s,t)∈P.unlike∨(t,s)∈P.unlike:=by unfold ia;rw[wg];exact⟨λ⟨s,h,e⟩=>⟨s,h,gC.mp e⟩,λ⟨s,h,e⟩=>⟨s,h,gC.mpr e⟩⟩
def aeG(P:Plan)(L:Za):Prop:=∀g:Nat->Nat,(∀s t,(s,t)∈P.alike->s∈L->t∈L->g s=g t)->∀s∈L,∀t∈L,g s=g t
structure nJ(P:Plan)(ks:Za)(ls:Yq):Prop where
 perm:ls.flatten.Perm ks
 ne:∀L∈ls,L≠[]
 gx:∀L∈ls,aeG P L
 pair:∀s t,(s,t)∈P.alike->s∈ks->t∈ks->∃L∈ls,s∈L/\t∈L
theorem nJ.nil(P:Plan):nJ P [] []:=⟨Pf _,λL h=>Ve,λL h=>Ve,λs t _ h=>Ve⟩
theorem nJ.step{P:Plan}{ks:Za}{ls:Yq}{s:Nat}(h:nJ P ks ls)(aK:ZeW):nJ P (ks++[s]) (sP P ls s):=by
 have iI:∀t∈ks,∃L∈ls,t∈L:=λt ht=>by have:=h.perm.mem_iff.mpr ht;obtain⟨L,hL,e⟩:=sW.mp this;exact⟨L,hL,e⟩
 have au8:∀L∈ls,∀t∈L,t∈ks:=λL hL t ht=>h.perm.mem_iff.mp (sW.mpr ⟨L,hL,ht⟩);have xR:∀L∈ls,cI L Zea=true->∀t∈L,t∈(ls.filter λL=>VI).flatten :=λL hL hs t ht=>
  sW.mpr ⟨L,bD.mpr ⟨hL,hs⟩,ht⟩
 have LS:s::(ls.filter λL=>VI).flatten ∈sP P ls s:=je _ aY;refine⟨?_,λL hL=>?_,λL hL=>?_,λa b dc ha hb=>?_⟩
 ·unfold sP;rw[afE];have e1:[s::(ls.filter λL=>VI).flatten].flatten =s::(ls.filter λL=>VI).flatten :=by simp
  rw[e1];have p1:((ls.filter λL=>VI)++(ls.filter λL=>!cI L Zea)).Perm ls:=List.filter_append_perm _ _;have p2:=p1.flatten;rw[afE]at p2;have p3:(s::((ls.filter λL=>VI).flatten ++(ls.filter λL=>!cI L Zea).flatten)).Perm (s::ks):=(p2.trans h.perm).cons s;refine(afr.trans ?_).trans (p3.trans (afr (l₁:=[s]) (l₂:=ks)));exact Pf _
 ·rcases b8.mp hL with q|q
  ·exact h.ne L (bD.mp q).1
  ·rw[bo]at q;rw[q];exact afL _ _
 ·rcases b8.mp hL with q|q
  ·exact h.gx L (bD.mp q).1
  ·rw[bo]at q;subst q;intro g hg;have key:∀y∈(ls.filter λL=>VI).flatten,g y=g s:=by
    intro y hy;obtain⟨L,hL,hyL⟩:=sW.mp hy;obtain⟨yt,yr⟩:=bD.mp hL;obtain⟨m,hm,hmp⟩:=ub.mp yr;have hmf:m∈(ls.filter λL=>VI).flatten :=xR L yt yr m hm;have e1:g m=g s:=by
     rcases gC.mp hmp with q|q
     ·exact(hg s m q aY (ZE hmf)).symm
     ·exact hg m s q (ZE hmf) aY
    rw[←e1];exact h.gx L yt g (λa b dc ha hb=>hg a b dc (ZE (xR L yt yr a ha)) (ZE (xR L yt yr b hb))) y hyL m hm
   intro a ha b hb;have fa:g a=g s:=by
    rcases aJ.mp ha with e|e
    ·rw[e]
    ·exact key a e
   have fb:g b=g s:=by
    rcases aJ.mp hb with e|e
    ·rw[e]
    ·exact key b e
   rw[fa,fb]
 ·have old:∀a b,a∈ks->b∈ks->(a,b)∈P.alike->∃L∈sP P ls s,a∈L/\b∈L:=λa b ha hb dc=>by
   obtain⟨L,hL,h1,h2⟩:=h.pair a b dc ha hb;cases e:cI L Zea with
   |false=>exact⟨L,mz _ (bD.mpr ⟨hL,Xo⟩),h1,h2⟩
   |true=>exact⟨_,LS,ZE (xR L hL e a h1),ZE (xR L hL e b h2)⟩
  have new:∀b,b∈ks->b∈Xx s->b∈s::(ls.filter λL=>VI).flatten :=λb hb hp=>by obtain⟨L,hL,h1⟩:=iI b hb;exact ZE (xR L hL (ub.mpr ⟨b,h1,hp⟩) b h1)
  rcases b8.mp ha with j6|j6
  ·rcases b8.mp hb with jE|jE
   ·exact old a b j6 jE dc
   ·have e:=bo.mp jE;subst e;exact⟨_,LS,new a j6 (gC.mpr (.inr dc)),aY⟩
  ·have e:=bo.mp j6;subst e;rcases b8.mp hb with jE|jE
   ·exact⟨_,LS,aY,new b jE (gC.mpr (.inl dc))⟩
   ·have e:=bo.mp jE;subst e;exact absurd rfl (aK _ dc)
theorem ar3(P:Plan)(ss:Za)(s:Nat):kN P (ss++[s])=sP P (kN P ss) s:=by unfold kN;rw[Pa];rfl
theorem ac1{P:Plan}(aK:ZeW):∀(ss ks:Za) (ls:Yq),nJ P ks ls->nJ P (ks++ss) (ss.foldl (sP P) ls)
 |[],ks,ls,h=>by rw[fc];exact h
 |s::r,ks,ls,h=>by have:=ac1 aK r (ks++[s]) _ (h.step (s:=s) aK);rw[eC]at this;exact this
theorem Fx{P:Plan}(aK:ZeW)(ss:Za):nJ P ss (kN P ss):=by have:=ac1 aK ss [] [] (nJ.nil P);rw[my]at this;exact this
theorem abx:∀(ls:Yq),(∀L∈ls,L≠[])->ls.length<=ls.flatten.length
 |[],_=>ZA
 |L::r,h=>by have ih:=abx r λM hM=>h M (ZE hM);have h1:0<L.length:=sX.mpr (h L aY);rw[nG,bS,bb];omega
theorem nJ.len{P:Plan}{ks:Za}{ls:Yq}(h:nJ P ks ls):ls.length<=ks.length:=by rw[←h.perm.length_eq];exact abx ls h.ne
theorem K7:∀(ls:Yq) (L:Za),L∈ls->L.length<=ls.flatten.length
 |M::r,L,h=>by
  rw[nG,bS];rcases aJ.mp h with e|e
  ·rw[e];omega
  ·have:=K7 r L e;omega
abbrev Pt:=List Nat×List Nat
def dm(ps:Xu):Za:=(ps.map Zg).flatten
def jU(ps:Xu):cz:=ps.flatMap λq=>q.1.map λs=>(s,q.2)
theorem lq:∀ps:List Pt,keys Zd9=dm ps
 |[]=>rfl
 |q::r=>by
  unfold keys jU dm;rw[iR,cA,bz,cw,nG];congr 1
  ·exact ZgQ
  ·exact lq r
theorem pK{ps:Xu}{s:Nat}:s∈dm ps↔∃q∈ps,s∈q.1:=by
 unfold dm;rw[sW];ext b
 ·rintro⟨L,hL,h⟩;obtain⟨q,hq,rfl⟩:=aN.mp hL;exact⟨q,hq,h⟩
 ·rintro⟨q,hq,h⟩;exact⟨q.1,aN.mpr ⟨q,hq,rfl⟩,h⟩
theorem uM{ps:Xu}{p:Zay}:p∈jU ps↔∃q∈ps,p.1∈q.1/\p.2=q.2:=by
 unfold jU;rw[wg];ext b
 ·rintro⟨q,hq,h⟩;obtain⟨s,hs,rfl⟩:=UN;exact⟨q,hq,hs,rfl⟩
 ·rintro⟨q,hq,h1,h2⟩;exact⟨q,hq,aN.mpr ⟨p.1,h1,by rw[←h2]⟩⟩
structure zh(P:Plan)(ps:Xu)(rooms:YX):Prop where
 nd:(dm ps).Nodup
 ne:∀q∈ps,q.1≠[]
 gx:∀q∈ps,aeG P q.1
 pair:∀s t,(s,t)∈P.alike->s∈dm ps->t∈dm ps->∃q∈ps,s∈q.1/\t∈q.1
 self:∀q∈ps,∀s t,(s,t)∈P.unlike->s∈q.1->t∈q.1->q.2=[]
 room:∀q∈ps,∀x∈q.2,(q.1.length:Int)<=rooms x
def iN(P:Plan)(ps:Xu)(taken:Za)(x:Nat)(room:Int):Xu:=
 (ps.filter λr=>r.1 != taken).map λr=>(r.1,if(decide (room<(r.1.length:Int))||cI r.1 (ia P taken))=true then r.2.filter Zdg else r.2)
def lZ(rooms:YX)(x n:Nat):Nat->Int:=λy=>if y=x then rooms y-(n:Int)else rooms y
theorem Ah(P:Plan)(ps:Xu)(taken:Za)(x:Nat)(room:Int):dm (iN P ps taken x room)=dm (ps.filter λr=>r.1 != taken):=by unfold dm iN;rw[bz];rfl
theorem apart{ps:Xu}(nd:(dm ps).Nodup):∀{q r:Pt},q∈ps->r∈ps->∀{s},s∈q.1->s∈r.1->q=r:=by
 induction ps with
 |nil=>intro q r h;cases h
 |cons a l ih=>
  intro q r hq hr s h1 h2;have e:dm (a::l)=a.1++dm l:=rfl;rw[e]at nd;obtain⟨n1,n2,n3⟩:=mx.mp nd;rcases aJ.mp hq with eq|i7
  ·rcases aJ.mp hr with er|gS
   ·rw[eq,er]
   ·subst eq;exact absurd rfl (n3 s h1 s (pK.mpr ⟨r,gS,h2⟩))
  ·rcases aJ.mp hr with er|gS
   ·subst er;exact absurd rfl (n3 s h2 s (pK.mpr ⟨q,i7,h1⟩))
   ·exact ih n2 i7 gS h1 h2
theorem D9{q:Pt}:∀{ps:Xu},(dm ps).Nodup ->(∀r∈ps,r.1≠[])->q∈ps->(dm ps).Perm (q.1++dm Ug)
 |a::l,nd,ne,hq=>by
  have e:dm (a::l)=a.1++dm l:=rfl;have nd':=nd;rw[e]at nd';obtain⟨n1,n2,n3⟩:=mx.mp nd';rw[e,jf];by_cases h:a.1=q.1
  ·have hb:¬(a.1 != q.1)=true:=by simp[h]
   rw[ae hb,←h];have:l.filter (λr=>r.1 != a.1)=l:=Pc.mpr λr hr=>by rw[vO];intro er;obtain⟨s,hs⟩:=afH _ (ne a aY);exact n3 s hs s (pK.mpr ⟨r,hr,by rw[er];exact hs⟩) rfl
   rw[this]
  ·have hb:(a.1 != q.1)=true:=by simpa using h
   rw[af hb];have cF:q∈l:=(aJ.mp hq).resolve_left λe=>h (by rw[e]);have ih:=D9 (q:=q) n2 (λr hr=>ne r (ZE hr)) cF;have e2:dm (a::l.filter λr=>r.1 != q.1)=a.1++dm (l.filter λr=>r.1 != q.1):=rfl;rw[e2];refine(ih.append_left a.1).trans ?_;rw[←eC,←eC];exact afr.append_right _
theorem BG{l:Za}{g:UM}{x:Nat}(h:∀s∈l,g s=x)(y:Nat):l.countP Zda=if y=x then l.length else 0:=by
 ext u
 ·rw[af e,List.countP_eq_length.mpr λs hs=>by rw[h s hs,e];simp]
 ·rw[ae e,List.countP_eq_zero.mpr λs hs=>by rw[h s hs];simpa using λq=>UC]
theorem ah6{P:Plan}{ps:Xu}{rooms:YX}(ok:zh P ps rooms)(h0:ZoH){q:Pt}(hq:q∈ps):
  Sat P Zd9 rooms↔∃x∈q.2,W5 (jU (ZbC Zmd)) Zv8:=by
 have ly:=D9 ok.nd ok.ne hq;have kx:∀x room s,s∈keys (jU (ZbC room))↔s∈dm Ug:=λx room s=>by rw[lq,Ah]
 have EX:∀s,s∈dm Ug->s∈dm ps:=λs hs=>ZwB;have vd:∀s,s∈dm ps->s∉q.1->s∈dm Ug:=λs hs hn=>(b8.mp (ly.mem_iff.mp hs)).resolve_left hn;have yh:∀(g:UM) y,(dm ps).countP Zda=q.1.countP Zda+(dm Ug).countP Zda:=λg y=>by rw[ly.countP_eq,Cs]
 obtain⟨s0,fX⟩:=afH _ (ok.ne q hq);ext b
 ·rintro⟨g,hg⟩;have hk:∀s,s∈keys Zd9↔s∈dm ps:=λs=>by rw[lq]
  have same:∀r∈ps,∀s∈r.1,∀t∈r.1,g s=g t:=λr hr=>ok.gx r hr g λs t aT hs ht=>UB aT ((hk s).mpr (pK.mpr ⟨r,hr,hs⟩)) ((hk t).mpr (pK.mpr ⟨r,hr,ht⟩));have iH:∀s∈q.1,g s=g s0:=λs hs=>same q hq s hs s0 fX;refine⟨g s0,hg.opt (s0,q.2) (uM.mpr ⟨q,hq,fX,rfl⟩),g,?_⟩;refine⟨λp hp=>?_,λs t h1 h2 h3=>ZcX ZsH ZsI,λs t h1 h2 h3=>UB h1 ZsH ZsI,λy=>?_⟩
  ·obtain⟨r',iG,h1,h2⟩:=uM.mp hp;obtain⟨r,hr,rfl⟩:=aN.mp iG;obtain⟨gS,gR⟩:=bD.mp hr;have aK:r.1≠q.1:=by simpa using gR
   have hgr:g p.1∈r.2:=hg.opt (p.1,r.2) (uM.mpr ⟨r,gS,h1,rfl⟩);rw[h2];show g p.1∈(if _ then _ else _);split
   ·rename_i hc;rw[bD];refine⟨hgr,?_⟩;rw[vO];intro hx;have dB:∀s∈r.1,g s=g s0:=λs hs=>(same r gS s hs p.1 h1).trans hx;rw[h_]at hc;rcases hc with hc|hc
    ·have hc:=lW hc;have h5:=hg.room (g s0);rw[lq,yh,BG iH,af rfl]at h5;have jw:r∈ps.filter λr=>r.1 != q.1:=hr;have rJ:(dm Ug).Nodup :=by have:=Zm6;exact(mx.mp this).2.1
     have dP:=D9 rJ (λr' h=>ok.ne r' (bD.mp h).1) jw;rw[dP.countP_eq,Cs,BG dB,af rfl]at h5;omega
    ·obtain⟨m,hm,A3⟩:=ub.mp hc;obtain⟨t,ht,hu⟩:=Aw.mp A3;have ya:m∈keys Zd9:=(hk m).mpr (pK.mpr ⟨r,gS,hm⟩);have htk:t∈keys Zd9:=(hk t).mpr (pK.mpr ⟨q,hq,ht⟩);rcases hu with hu|hu
     ·exact hg.unlike t m hu htk ya ((iH t ht).trans (dB m hm).symm)
     ·exact hg.unlike m t hu ya htk ((dB m hm).trans (iH t ht).symm)
   ·exact hgr
  ·have h5:=hg.room y;rw[lq,yh,BG iH]at h5;rw[lq,Ah];unfold lZ;by_cases e:y=g s0
   ·rw[af e]at h5⊢;omega
   ·rw[ae e]at h5⊢;omega
 ·rintro⟨x,hx,g,hg⟩;refine⟨λs=>if s∈q.1 then x else g s,?_⟩;have inr:∀r∈ps,∀s∈r.1,s∉q.1->r∈ps.filter λr=>r.1 != q.1:=λr hr s hs hn=>bD.mpr ⟨hr,by rw[vO];intro e;exact hn (e▸hs)⟩
  have Mv:∀r∈ps,∀s∈r.1,s∉q.1->g s∈r.2/\((decide (rooms x-(q.1.length:Int)<(r.1.length:Int))||cI r.1 Zgd)=true->g s≠x):=λr hr s hs hn=>by
   have h1:=hg.opt (s,_) (uM.mpr ⟨_,aN.mpr ⟨r,inr r hr s hs hn,rfl⟩,hs,rfl⟩);have h1:g s∈(if(decide (rooms x-(q.1.length:Int)<(r.1.length:Int))||cI r.1 Zgd)=true then r.2.filter Zdg else r.2):=h1;split at h1
   ·obtain⟨h2,h3⟩:=bD.mp h1;exact⟨h2,λ_=>by simpa using h3⟩
   ·rename_i hc;exact⟨h1,λq=>absurd q hc⟩
  refine ZrA
  ·obtain⟨r,hr,h1,h2⟩:=uM.mp hp;show(if p.1∈q.1 then x else g p.1)∈p.2;rw[h2];by_cases hm:p.1∈q.1
   ·rw[af hm];have:q=r:=Zoi hm h1;rw[←this];exact hx
   ·rw[ae hm];exact(Mv r hr p.1 h1 hm).1
  ·rw[lq]at h2 h3;show(if s∈q.1 then x else g s)≠(if t∈q.1 then x else g t);by_cases es:s∈q.1
   ·rw[af es];by_cases et:t∈q.1
    ·have:=ok.self q hq s t h1 es et;rw[this]at hx;cases hx
    ·rw[ae et];obtain⟨r,hr,r6⟩:=pK.mp h3;exact λe=>(Mv r hr t r6 et).2 (by rw[h_];exact .inr (ub.mpr ⟨t,r6,Aw.mpr ⟨s,es,.inl h1⟩⟩)) e.symm
   ·rw[ae es];by_cases et:t∈q.1
    ·rw[af et];obtain⟨r,hr,dv⟩:=pK.mp h2;exact(Mv r hr s dv es).2 (by rw[h_];exact .inr (ub.mpr ⟨s,dv,Aw.mpr ⟨t,et,.inr h1⟩⟩))
    ·rw[ae et];exact ZcX Zug Zuh
  ·rw[lq]at h2 h3;show(if s∈q.1 then x else g s)=(if t∈q.1 then x else g t);obtain⟨r,hr,dv,r6⟩:=ok.pair s t h1 h2 h3;by_cases es:s∈q.1
   ·have:q=r:=Zoi es dv;rw[af es,af (by rw[this];exact r6)]
   ·by_cases et:t∈q.1
    ·have:q=r:=Zoi et r6;exact absurd (by rw[this];exact dv) es
    ·rw[ae es,ae et];exact UB h1 Zug Zuh
  ·have h5:=hg.room y;rw[lq,Ah]at h5;rw[lq,yh,BG (x:=x) (λs hs=>af hs)];have e1:(dm Ug).countP (λs=>(if s∈q.1 then x else g s)==y)=(dm Ug).countP Zda:=by
    refine List.countP_congr λs hs=>?_;have:s∉q.1:=λcF=>by have rJ:=Zm6;exact(mx.mp rJ).2.2 s cF s hs rfl
    rw[ae this]
   rw[e1];unfold lZ at h5;ext u
   ·rw[af e]at h5⊢;omega
   ·rw[ae e]at h5⊢;omega
theorem zh.behind{P:Plan}{ps:Xu}{rooms:YX}(ok:zh P ps rooms){q:Pt}(hq:q∈ps)(x:Nat):zh P (ZbC Zmd) Zv8:=by
 have ly:=D9 ok.nd ok.ne hq;have rJ:=Zm6;have mem:∀r'∈ZbC Zmd,∃r∈ps,r.1≠q.1/\r'.1=r.1/\r'.2=(if(decide (rooms x-(q.1.length:Int)<(r.1.length:Int))||cI r.1 Zgd)=true then r.2.filter Zdg else r.2):=λr' iG=>by obtain⟨r,hr,rfl⟩:=aN.mp iG;obtain⟨h1,h2⟩:=bD.mp hr;exact⟨r,h1,Zny,rfl,rfl⟩
 refine⟨?_,λr' iG=>?_,λr' iG=>?_,λs t aT hs ht=>?_,λr' iG s t aT hs ht=>?_,λr' iG y hy=>?_⟩
 ·rw[Ah];exact(mx.mp rJ).2.1
 ·obtain⟨r,h1,_,e,_⟩:=ZkM;rw[e];exact ok.ne r h1
 ·obtain⟨r,h1,_,e,_⟩:=ZkM;rw[e];exact ok.gx r h1
 ·rw[Ah]at hs ht;have up:∀s,s∈dm Ug->s∈dm ps/\s∉q.1:=λs hs=>⟨ZwB,λcF=>(mx.mp rJ).2.2 s cF s hs rfl⟩;obtain⟨r,hr,h1,h2⟩:=ok.pair s t aT (up s hs).1 (up t ht).1;refine⟨_,aN.mpr ⟨r,bD.mpr ⟨hr,?_⟩,rfl⟩,h1,h2⟩;rw[vO];intro e;exact(up s hs).2 (e▸h1)
 ·obtain⟨r,h1,_,e1,e2⟩:=ZkM;rw[e1]at hs ht;have:=ok.self r h1 s t aT hs ht;rw[e2,this];split<;>rfl
 ·obtain⟨r,h1,_,e1,e2⟩:=ZkM;rw[e1];rw[e2]at hy;unfold lZ;split at hy
  ·obtain⟨hy1,hy2⟩:=bD.mp hy;have aK:y≠x:=by simpa using hy2
   rw[ae aK];exact ok.room r h1 y hy1
  ·rename_i hc;ext u
   ·rw[af e,e];rw[h_,not_or]at hc;have:¬(rooms x-(q.1.length:Int)<(r.1.length:Int)):=λz=>hc.1 (bu z);omega
   ·rw[ae e];exact ok.room r h1 y hy
theorem alu{rooms:YX}{x n:Nat}(h:∀y,0<=rooms y)(hx:(n:Int)<=rooms x):∀y,0<=lZ rooms x n y:=λy=>by
 unfold lZ;ext u
 ·rw[af e,e];omega
 ·rw[ae e];exact h y
def jm(P:Plan)(o:cz)(rooms:YX)(ss:Za):Pt:=
 (ss,if cI ss ZgH=true then []else((Y1 (ss.headD 0)).filter λx=>decide ((ss.length:Int)<=rooms x)).filter λx=>ss.all λs=>(Y1 s).contains x)
def partsOf(P:Plan)(o:cz)(rooms:YX):Xu:=(kN P XU).map Zju
theorem Er{P:Plan}{o:cz}{rooms:YX}{ss:Za}(aK:ss≠[]){x:Nat}:x∈(Zju ss).2↔cI ss ZgH=false/\(ss.length:Int)<=rooms x/\∀s∈ss,x∈Y1 s:=by
 unfold jm;ext i;cases e:cI ss ZgH with
 |true=>simp
 |false=>
  rw[ae Zh,bD,bD,bX,dh];ext b
  ·rintro⟨⟨h1,h2⟩,h3⟩;exact⟨rfl,h2,λs hs=>bx.mp (h3 s hs)⟩
  ·rintro⟨_,h2,h3⟩;refine⟨⟨h3 _ ?_,h2⟩,λs hs=>bx.mpr (h3 s hs)⟩;cases ss with
   |nil=>exact absurd rfl aK
   |cons a r=>exact aY
theorem aaF{o:cz}(hn:Zfu){p:Zay}(h:p∈o):Y1 p.1=p.2:=by
 unfold fE;have:o.find? (λq=>q.1==p.1)=some p:=by
  induction o with
  |nil=>cases h
  |cons a r ih=>
   rw[oU];have x_:(a.1::keys r).Nodup :=hn;obtain⟨n1,n2⟩:=df.mp x_;by_cases e:a.1=p.1
   ·have:a=p:=(aJ.mp h).elim (λq=>q.symm) λq=>absurd (by rw[e];exact aN.mpr ⟨p,q,rfl⟩) n1;have hb:(a.1==p.1)=true:=by simp[e]
    rw[hb,this]
   ·have hb:(a.1==p.1)=false:=by simpa using e
    rw[hb];exact ih n2 ((aJ.mp h).resolve_left λq=>e (by rw[q]))
 rw[this];rfl
theorem Ag(P:Plan)(o:cz)(rooms:YX):dm Ze4=(kN P XU).flatten :=by unfold dm partsOf;rw[bz];congr 1;exact ZgQ
theorem aid{P:Plan}(aK:ZeW){o:cz}(hn:Zfu)(rooms:YX):zh P Ze4 rooms:=by
 have G:=Fx aK XU;have mem:∀q∈partsOf P o rooms,∃L∈kN P XU,q=Zju L:=λq hq=>by obtain⟨L,hL,rfl⟩:=aN.mp hq;exact Zpz
 refine⟨?_,λq hq=>?_,λq hq=>?_,λs t aT hs ht=>?_,λq hq s t aT hs ht=>?_,λq hq x hx=>?_⟩
 ·rw[Ag];exact G.perm.nodup_iff.mpr hn
 ·ext au;exact ZbL
 ·ext au;exact G.gx L hL
 ·rw[Ag]at hs ht;obtain⟨L,hL,h1,h2⟩:=G.pair s t aT (G.perm.mem_iff.mp hs) (G.perm.mem_iff.mp ht);exact⟨_,aN.mpr Zpz,h1,h2⟩
 ·ext au;have:cI L (ia P L)=true:=ub.mpr ⟨t,ht,Aw.mpr ⟨s,hs,.inl aT⟩⟩;unfold jm;rw[af this]
 ·ext au;exact((Er ZbL).mp hx).2.1
theorem ahK{P:Plan}(aK:ZeW){o:cz}(hn:Zfu)(rooms:YX):W5 o rooms↔W5 (jU Ze4) rooms:=by
 have G:=Fx aK XU;have hk:∀s,s∈keys (jU Ze4)↔s∈keys o:=λs=>by rw[lq,Ag];exact G.perm.mem_iff
 have hc:∀p:Nat->Bool,(keys (jU Ze4)).countP p=(keys o).countP p:=λp=>by rw[lq,Ag];exact G.perm.countP_eq p
 have sk:∀s∈keys o,∃l,(s,l)∈o:=λs hs=>by obtain⟨p,hp,rfl⟩:=aN.mp hs;exact⟨p.2,hp⟩
 ext b
 ·rintro⟨g,hg⟩;refine⟨g,λp hp=>?_,λs t h1 h2 h3=>ZcX ((hk s).mp h2) ((hk t).mp h3),λs t h1 h2 h3=>UB h1 ((hk s).mp h2) ((hk t).mp h3),λx=>by rw[hc];exact ZkJ⟩;obtain⟨q,hq,h1,h2⟩:=uM.mp hp;obtain⟨L,hL,rfl⟩:=aN.mp hq;have h1:p.1∈L:=h1;have uY:∀s∈L,s∈keys o:=λs hs=>G.perm.mem_iff.mp (sW.mpr ⟨L,hL,hs⟩);have same:∀s∈L,∀t∈L,g s=g t:=G.gx L hL g λs t aT hs ht=>UB aT (uY s hs) (uY t ht);rw[h2,Er ZbL];refine⟨?_,?_,λs hs=>?_⟩
  ·cases e:cI L (ia P L)with
   |false=>rfl
   |true=>
    obtain⟨m,hm,hu⟩:=ub.mp e;obtain⟨t,ht,hu⟩:=Aw.mp hu;rcases hu with hu|hu
    ·exact absurd (same t ht m hm) (hg.unlike t m hu (uY t ht) (uY m hm))
    ·exact absurd (same m hm t ht) (hg.unlike m t hu (uY m hm) (uY t ht))
  ·have h5:=hg.room (g p.1);rw[←hc,lq,Ag]at h5;have:L.length<=(kN P XU).flatten.countP (λs=>g s==g p.1):=by
    have e1:L.countP (λs=>g s==g p.1)=L.length:=by rw[BG (x:=g p.1) (λs hs=>same s hs p.1 h1),af rfl]
    rw[←e1];obtain⟨l1,l2,e⟩:=List.append_of_mem hL;rw[e,afE,nG,Cs,Cs];omega
   omega
  ·obtain⟨l,hl⟩:=sk s (uY s hs);rw[aaF hn hl,same p.1 h1 s hs];exact hg.opt _ hl
 ·rintro⟨g,hg⟩;refine⟨g,λp hp=>?_,λs t h1 h2 h3=>ZcX ((hk s).mpr h2) ((hk t).mpr h3),λs t h1 h2 h3=>UB h1 ((hk s).mpr h2) ((hk t).mpr h3),λx=>by rw[←hc];exact ZkJ⟩;have:p.1∈(kN P XU).flatten :=G.perm.mem_iff.mpr ZmG;obtain⟨L,hL,hs⟩:=sW.mp this;have h1:=hg.opt (p.1,(Zju L).2) (uM.mpr ⟨_,aN.mpr Zpz,hs,rfl⟩);have h2:=((Er ZbL).mp h1).2.2 p.1 hs;rw[aaF hn hp]at h2;exact h2
end
section
open Vbwbal (Plan Bytes Choice signer load goesWith fits unsigned complete canEnd completion choose subsets)
def c8(w:Choice):Nat->Nat->Bool:=λt y=>match signer w t with
 |some x=>y==x
 |none=>true
def iO(P:Plan)(ab:Za):Choice->Choice->Prop
 |[],_=>True
 |(s,x)::w,c=>(x<P.persons.length/\YD x=true/\YO x=true)/\WX Yi
theorem CG(P:Plan)(ab:Za)(s x:Nat):∀(w c:Choice),ZjY c↔WX c/\(x<P.persons.length/\YD x=true/\Zdh x=true)
 |[],c=>by rw[my,fc];exact⟨λh=>⟨trivial,h.1⟩,λh=>⟨h.2,trivial⟩⟩
 |(t,y)::w,c=>by show(_/\ZjY ZpM)↔(_/\WX ZpM)/\_;rw[Zjm ZpM,eC];exact and_assoc.symm
theorem aoD{f:Znp}{n x:Nat}(hx:x<n)(h:∀y,y≠x->f y=none):(List.range n).findSome? f=f x:=by
 induction n with
 |zero=>exact absurd hx (OU _)
 |succ n ih=>
  rw[Cj,List.findSome?_append];by_cases e:x=n
  ·subst e;have:(List.range x).findSome? f=none:=afF.mpr λy hy=>h y (λq=>by have:=ZkT;omega)
   rw[this];simp
  ·rw[ih Zb];have:f n=none:=h n λq=>UC;simp[this]
theorem aoE{f:Znp}{n:Nat}(h:∀y,y<n->f y=none):(List.range n).findSome? f=none:=
 afF.mpr λy hy=>h y ZkT
theorem ad1(P:Plan)(ab:Za)(q:VF):∀(w:Choice) (rest:Za) (c:Choice),(∀p∈w,∀y,q p.1 y=(y==p.2))->WX c->ZmF c=Wv q rest Zci
 |[],rest,c,_,_=>by rw[fc];rfl
 |(s,x)::w,rest,c,hq,hv=>by
  obtain⟨⟨h1,h2,h3⟩,ig⟩:=hv;have EZ:∀y,q s y=(y==x):=λy=>hq (s,x) aY y;have e0:Wv q ((((s,x)::w).map Zg)++rest) c=(List.range P.persons.length).findSome? λx=>if(YD x&&YO x&&q s x)=true then ZmF Yi else none:=rfl
  rw[e0,aoD h1 λy hy=>by rw[ae];rw[EZ y,aP];exact λe=>hy (by simpa using e.2)]
  rw[af (by rw[h2,h3,EZ];simp),ad1 P ab q w rest _ Zwc ig,eC];rfl
theorem ad2(P:Plan)(ab:Za)(q:VF):∀(w:Choice) (rest:Za) (c:Choice),(∀p∈w,∀y,q p.1 y=(y==p.2))->¬WX c->ZmF c=none
 |[],rest,c,_,hv=>absurd trivial hv
 |(s,x)::w,rest,c,hq,hv=>by
  have EZ:∀y,q s y=(y==x):=λy=>hq (s,x) aY y;show Wv q (s::(w.map Zg++rest)) c=_;unfold fk;refine aoE λy hy=>?_;by_cases hc:(YD y&&YO y&&q s y)=true
  ·rw[af hc];rw[aP,aP,EZ]at hc;obtain⟨⟨h1,h2⟩,h3⟩:=hc;have e:y=x:=by simpa using h3
   subst e;exact ad2 P ab q w rest _ Zwc λh=>hv ⟨⟨hy,h1,h2⟩,h⟩
  ·rw[ae hc]
theorem ad0(P:Plan)(ab:Za)(q:VF):∀(l:Za) (c:Choice),(∀t∈l,∀y,q t y=true)->Wv q l c=YW l c
 |[],c,_=>rfl
 |s::r,c,h=>by unfold fk complete;congr 1;funext x;rw[h s aY x,wG,ad0 P ab q r _ λt ht=>h t ZkS]
theorem Mu(P:Plan)(ab:Za)(c w:Choice)(s x:Nat)(r:Za)(hw:WX c)(hn:Zmh):
  (Wv Zej (w.map Zg++s::r) c).isSome =true↔
   (x<P.persons.length/\YD x=true/\Zdh x=true)/\(YW r (c++w++[(s,x)])).isSome =true:=by
 have kF:=mx.mp hn;have hnk:(((w++[(s,x)]).map Zg)++r).Nodup :=by rw[cA];show((w.map Zg++[s])++r).Nodup;rw[eC];exact hn
 have hk:=mx.mp hnk;have hq:∀p∈w++[(s,x)],∀y,Zej p.1 y=(y==p.2):=λp hp y=>by unfold c8;rw[w4 hk.1 (show(p.1,p.2)∈w++[(s,x)]from hp)]
 have so:∀t∈r,∀y,Zej t y=true:=λt ht y=>by unfold c8;have:signer Zlj t=none:=zR.mpr λhm=>(hk.2.2 t hm t ht) rfl;rw[this]
 have el:w.map Zg++s::r=(w++[(s,x)]).map Zg++r:=by rw[cA,eC];rfl
 rw[el];by_cases hv:ZjY c
 ·rw[ad1 P ab _ _ r c hq hv,ad0 P ab _ r _ so,←eC];exact⟨λh=>⟨((Zjm c).mp hv).2,h⟩,λh=>h.2⟩
 ·rw[ad2 P ab _ _ r c hq hv];exact⟨λh=>Ve,λh=>absurd ((Zjm c).mpr ⟨hw,h.1⟩) hv⟩
theorem adv{p:ZbN}{f:Znp}:∀{l:Za} {x:Nat} {r:Za},(∀y∈l,(f y).isSome =p y)->l.filter p=x::r->l.findSome? f=f x
 |[],x,r,_,h=>by cases h
 |a::l,x,r,hp,h=>by
  rw[jf]at h;rw[List.findSome?_cons];have ha:=hp a aY;by_cases e:p a=true
  ·rw[af e]at h;have:a=x:=(afM h).1;subst this;rw[e]at ha;cases ef:f a with
   |none=>rw[ef]at ha;cases ha
   |some v=>rfl
  ·rw[ae e]at h;have ef:f a=none:=by
    cases q:f a with
    |none=>rfl
    |some v=>
     rw[q]at ha;exact absurd ha.symm e
   rw[ef];exact adv (λy hy=>hp y ZdT) h
theorem anQ{P:Plan}{c:Choice}{s x t y:Nat}(h:ZbO)(ht:t≠s)(hx:ZjF)(g:W7 Yi t y=true):W7 c t y=true:=((Fy h ht hx).mp g).1
theorem Mt{P:Plan}{ab:Za}{t y:Nat}:∀(w c:Choice),WX c->(∀p∈w,ZW p.1=none)->(w.map Zg).Nodup ->t∉w.map Zg->W7 Zci t y=true->W7 c t y=true
 |[],c,_,_,_,_,g=>by rw[fc]at g;exact g
 |(s,x)::w,c,hv,hs,hn,ht,g=>by
  obtain⟨⟨h1,h2,h3⟩,ig⟩:=hv;obtain⟨kF,fH⟩:=Zb7;have AQ:t≠s:=λe=>ht (by rw[e];exact aY);have fX:=hs (s,x) aY;have g':W7 Yi t y=true:=by
   refine Mt w Yi ig Zp7 fH (λm=>ht (ZE m)) ?_
   ·have:¬p.1=s:=λe=>kF (by show s∈w.map Zg;rw[←e];exact ZmG)
    rw[nV fX,ae this];exact hs p (ZE hp)
   ·rw[eC];exact g
  exact anQ fX AQ ((Zd0 x).mp h3).2.2 g'
theorem aoB(P:Plan)(ab:Za)(c w:Choice)(s:Nat)(r:Za)(hw:WX c)(hn:Zmh)(hs:ZtH){x:Nat}{rest:Za}
  (hx:(ZJ s).filter Zes=x::rest):
  complete P ab Za3 Zci=YW r (c++w++[(s,x)])/\ZjY c/\x∈ZJ s:=by
 have kF:=mx.mp hn;have ot:x∈(ZJ s).filter Zes:=by rw[hx];exact aY
 obtain⟨AM,hx2⟩:=bD.mp ot;have hg:=(ZpD x r hw hn).mp hx2;refine⟨?_,(Zjm c).mpr ⟨hw,hg.1⟩,AM⟩;have gj:(ZJ s).filter Zes=
   (List.range P.persons.length).filter (λy=>(if(YD y&&Zdh y)=true then YW r (c++w++[(s,y)])else none).isSome):=by
  unfold bR;rw[qv];refine nH λy hy=>?_;have jt:=ZkT;have hgy:=ZpD y r hw hn;rw[iS,aP,hgy];by_cases hc:(YD y&&Zdh y)=true
  ·rw[af hc];rw[aP]at hc;ext b
   ·exact λh=>h.1.2
   ·intro h;refine⟨ZvV,?_⟩;rw[aP];refine ZqZ
  ·rw[ae hc];ext b
   ·rintro⟨⟨⟨_,h1,h2⟩,_⟩,_⟩;exact absurd (by rw[h1,h2];rfl) hc
   ·intro h;cases h
 rw[gj]at hx;have:=adv (f:=λy=>if(YD y&&Zdh y)=true then YW r (c++w++[(s,y)])else none) (λy _=>rfl) hx;show(List.range P.persons.length).findSome? _=_;rw[this,af (by rw[hg.1.2.1,hg.1.2.2];rfl)]
theorem aoC(P:Plan)(ab:Za)(c w:Choice)(s:Nat)(r:Za)(hw:WX c)(hn:Zmh)(hs:ZtH)
  (h:(YW Za3 Zci).isSome =true):(ZJ s).filter Zes≠[]:=by
 have kF:=mx.mp hn;unfold complete at h;obtain⟨y,hy,h⟩:=atn.mp h;have jt:=ZkT;by_cases hc:(YD y&&Zdh y)=true
 ·rw[af hc]at h;rw[aP]at hc;intro e;have hm:y∈(ZJ s).filter Zes:=by refine bD.mpr ⟨?_,(ZpD y r hw hn).mpr ZvV⟩;unfold bR;refine bD.mpr ⟨hy,?_⟩;rw[aP];exact ZqZ
  rw[e]at hm;cases hm
 ·rw[ae hc]at h;cases h
end
section
open Vbwbal (Plan Bytes Choice splitBy wordsOf letter digit isName numOf lineOf text)
def dX(c:Nat):Nat:=if c=32 then 32 else if c=10 then 10 else if 97<=c/\c<123 then c else if 48<=c/\c<58 then c else 63
def mask(w:Bytes):Bytes:=w.map dX
theorem alb{c:Nat}:dX c=32↔c=32:=by
 unfold dX;ext b
 ·intro h;split at h
  ·assumption
  ·split at h
   ·omega
   ·split at h
    ·omega
    ·split at h
     ·omega
     ·omega
 ·intro h;rw[af h]
theorem alc{c:Nat}:dX c=10↔c=10:=by
 unfold dX;ext b
 ·intro h;split at h
  ·omega
  ·split at h
   ·assumption
   ·split at h
    ·omega
    ·split at h
     ·omega
     ·omega
 ·intro h;rw[ae Zb,af h]
theorem KY{c:Nat}:letter Zel=letter c:=by
 unfold letter dX;split
 ·rw[‹c=32›]
 ·split
  ·rw[‹c=10›]
  ·split
   ·rfl
   ·split
    ·rfl
    ·rw[aX Zb,aX Zb]
theorem K0{c:Nat}:digit Zel=digit c:=by
 unfold digit dX;split
 ·rw[‹c=32›]
 ·split
  ·rw[‹c=10›]
  ·split
   ·rfl
   ·split
    ·rfl
    ·rw[aX Zb,aX Zb]
theorem KZ{c:Nat}(h:letter c=true∨digit c=true):dX c=c:=by
 unfold letter digit at h;rw[bX,bX]at h;unfold dX;rw[ae Zb,ae Zb];by_cases h1:97<=c/\c<123
 ·rw[af h1]
 ·rw[ae h1,af Zb]
theorem aa7{c:Nat}(h:letter Zel=true∨digit Zel=true):dX c=c:=by rw[KY,K0]at h;exact KZ h
theorem lP(sep:Nat):∀l,WQ l≠[]
 |[]=>by simp[splitBy]
 |c::r=>by
  unfold splitBy;split
  ·simp
  ·split<;>simp
theorem Il(sep:Nat)(hs:∀c,dX c=sep↔c=sep):∀l,WQ (mask l)=(WQ l).map mask
 |[]=>rfl
 |c::r=>by
  have ih:=Il sep hs r;show WQ (dX c::mask r)=_;unfold splitBy;by_cases e:c=sep
  ·rw[af ((hs c).mpr e),af e,ih];rfl
  ·rw[ae (λq=>e ((hs c).mp q)),ae e,ih];cases h:WQ r with
   |nil=>exact ZdW (lP sep r)
   |cons x l=>rfl
theorem ala(w:Bytes):(mask w).isEmpty =w.isEmpty:=by cases w<;>rfl
theorem agj(l:Bytes):wordsOf (mask l)=(wordsOf l).map mask:=by unfold wordsOf;rw[Il 32 λc=>alb,wm];congr 1;refine nH λw _=>?_;show((mask w).isEmpty ==false)=(w.isEmpty==false);rw[ala]
theorem agi{l w:Bytes}(h:w∈wordsOf l):w≠[]:=by unfold wordsOf at h;have:=(bD.mp h).2;intro e;rw[e]at this;cases this
def Et(t:Bytes):VW:=(Xf t).map λl=>(wordsOf l).map mask
theorem alp(t:Bytes):Et t=(Xf ZkW).map wordsOf:=by unfold Et;rw[Il 10 λc=>alc,bz];refine gv λl _=>?_;exact(agj l).symm
theorem aew(p:ZbN)(hp:∀c,p Zel=p c)(w:Bytes):(mask w).all p=w.all p:=by unfold mask;rw[mC];congr 1;funext c;exact hp c
theorem ab4(w:Bytes):isName (mask w)=isName w:=by
 unfold isName;rw[aew _ (λc=>by rw[KY,K0])];congr 1
 ·cases w with
  |nil=>rfl
  |cons c r=>exact KY
 ·unfold mask;rw[aq]
theorem atQ{w:Bytes}(h:ZpR):mask w=w:=by unfold isName at h;rw[aP,aP]at h;have h2:=dh.mp h.2.1;unfold mask;refine(gv λc hc=>?_).trans (G_ w);have:=h2 c hc;rw[h_]at this;exact KZ this
theorem pE{w v:Bytes}(hv:∀c∈v,letter c=true∨digit c=true):(mask w=v)↔w=v:=by
 ext b
 ·intro h;have:∀(w v:Bytes),(∀c∈v,letter c=true∨digit c=true)->mask w=v->w=v:=by
   intro w
   induction w with
   |nil=>intro v _ h;exact h
   |cons c r ih=>
    intro v hv h;cases v with
    |nil=>cases h
    |cons d s=>
     have h1:dX c=d:=(afM h).1;have h2:mask r=s:=(afM h).2;have hd:=hv d aY;rw[←h1]at hd;rw[ih s (λc hc=>hv c (ZE hc)) h2,←h1,aa7 hd]
  exact this w v hv h
 ·intro h;subst h;unfold mask;refine(gv λc hc=>?_).trans (G_ w);exact KZ (hv c hc)
def gB(w:Bytes):Bool:=decide (w.length<=2)&&(w.all digit&&(decide (w.length=1)||decide (w.head?≠some 48)))
end
section
open PySem
open Sem (wp)
theorem af6(a b c:Value):checkTypeCall "zip" ⟨[a,b,c],[]⟩=pure ():=by kernel_rfl
theorem af7(a b c:Value):checkBuiltinCall "zip.__new__" ⟨[.type "zip",a,b,c],[]⟩=pure ():=by kernel_rfl
theorem aga(a b c d:Value):Zww ⟨[a,b,c,d],[]⟩:=by unfold argsOk;rw[ZvD (n:="__tini__".toList) (o:="tcejbo".toList) Uq F.owner_object];kernel_rfl
abbrev iu(h:Heap)(T:Addr)(a b c:Value):Prop:=h.get? T=some {cls:=Xy,data:=.seq #[a,b,c]}
def dy(L:Zy)(h h':Heap):Prop:=∀c o,c∉L->h.get? c=some o->h'.get? c=some o
theorem dy.iter{L:Zy}{h h':Heap}{i l:Addr}{k:Nat}(q:dy L h h')(hi:i∉L)(x:h.IsListIter i l k):h'.IsListIter i l k:=x.at λo e=>q i o hi e
theorem dy.list{L:Zy}{h h':Heap}{l:Addr}{xs:YN}(q:dy L h h')(hi:l∉L)(x:h.IsList l xs):h'.IsList l xs:=x.at λo e=>q l o hi e
theorem dy.app{L M:Zy}{h h1 h2:Heap}(q:dy L h h1)(r:dy M h1 h2):dy (L++M) h h2:=λc o hc e=>r c o (λx=>hc (je _ x)) (q c o (λx=>hc (mz _ x)) e)
theorem dy.mono{L M:Zy}{h h1:Heap}(q:dy L h h1)(k:∀a,a∈L->a∈M):dy M h h1:=λc o hc e=>q c o (λx=>hc (k c x)) e
theorem dy.one{a:Addr}{h h1:Heap}(q:Heap.SameBut a h h1):dy [a] h h1:=λc o hc e=>q.extBut c o ZsT e
theorem dy.ext{a:Addr}{h h1:Heap}(q:Heap.ExtBut a h h1):dy [a] h h1:=λc o hc e=>q c o ZsT e
structure zA(z TI TO i1 i2 i3 l1 l2 l3:Addr):Prop where
 PL:z≠TI
 wH:z≠TO
 z1:z≠i1
 z2:z≠i2
 z3:z≠i3
 TITO:TI≠TO
 TI1:TI≠i1
 TI2:TI≠i2
 TI3:TI≠i3
 F_:TO≠i1
 F9:TO≠i2
 F8:TO≠i3
 i12:i1≠i2
 i13:i1≠i3
 i23:i2≠i3
 o1:l1∉[z,TO,i1,i2,i3]
 o2:l2∉[z,TO,i1,i2,i3]
 o3:l3∉[z,TO,i1,i2,i3]
section
variable {prog:Program}{w:World}{A:Around}{E:Zt}{s:Shared}
theorem HU{T:Addr}{a b c x:Value}{k:Nat}{Q:Zaj}(hT:iu s.heap T a b c)
  (h:∀h',h'.get? T=some {cls:=Xy,data:=.seq ((#[a,b,c]:Array Value).setIfInBounds k x)}->Heap.SameBut T s.heap h'->Q () {s with heap:=h'}):YC (updateSeq T (·.setIfInBounds k x)) Q E s:=by
 refine wpAny_updateSeq hT rfl (h _ ?_ (wx ..));rw[zu _ hT rfl];simp[Obj.mapSeq]
theorem af9{z TI TO i1 i2 i3 l1 l2 l3:Addr}{k:Nat}{xs ys us:YN}{x y u a b c:Value}{Q:Zt}(D:ZhF)
  (hz:ZhO) (dY:Zho) (fJ:iu s.heap TO a b c)
  (h1:ZhQ) (h2:Zv9) (h3:Zwa) (cX:ZcY xs) (bH:Zin) (b0:Zio) (hx:xs[k]? =some x) (hy:ys[k]? =some y) (hu:us[k]? =some u)
  (hQ:∀h',Zso->iu h' TO x y u->ZwT->ZwU->ZwV->Zvj->h'.objs.size=s.heap.objs.size+1->
   dy [z,TO,i1,i2,i3] s.heap h'->Q (.ref s.heap.objs.size) {s with heap:=h'}):
  wpAny Y5 A Zr4 (λfin s'=>∃v,fin=.done (.ret v)/\Q v s') E s:=by
 have one:∀{a b:Addr},a≠b->a∉[b]:=λh q=>h Zkq;have sub:∀{l a:Addr},l∉[z,TO,i1,i2,i3]->a∈[z,TO,i1,i2,i3]->l∉[a]:=λh m q=>ZvQ;have m0:z∈[z,TO,i1,i2,i3]:=by simp
 have m1:TO∈[z,TO,i1,i2,i3]:=by simp
 have m2:i1∈[z,TO,i1,i2,i3]:=by simp
 have m3:i2∈[z,TO,i1,i2,i3]:=by simp
 have m4:i3∈[z,TO,i1,i2,i3]:=by simp
 show Zvb;refine ZsZ;show Zvc;refine ZrS;show Zrt;ext q;unfold Builtin.SmallTypes.ownedTupleIsFree;refine Zte;simp only[iD];refine Zsd;refine ZuV;replace fF:IsZip g1 z TI TO .ellipsis :=fF;ext q;simp only[List.zipIdx_cons,List.zipIdx_nil,afD,O_];have k1:=dy.one s1;have T1:=k1 _ _ ZoC fJ;refine Zi2;show ZrR;refine aj (PX (k1.iter ZiV h1) (k1.list (sub D.o1 m0) cX) hx λg2 j1 s2=>Ys);have k2:=dy.one s2;have T2:=k2 _ _ (one D.F_) T1;refine aj (s_ T2 rfl (aj (HU T2 λg3 T3 s3=>aj (HE Ys))));replace T3:iu g3 TO x b c:=T3;have k3:=dy.one s3;refine Zi2;show YF (Builtin.SmallTypes.nextOf Zkh>>= _) _ _ _;refine aj (PX (k3.iter ZoA (k2.iter (one D.i12.symm) (k1.iter ZoD h2))) (k3.list (sub D.o2 m1) (k2.list (sub D.o2 m2) (k1.list (sub D.o2 m0) bH))) hy λg4 j2 s4=>Ys);have k4:=dy.one s4;have T4:=k4 _ _ (one D.F9) T3;refine aj (s_ T4 rfl (aj (HU T4 λg5 T5 s5=>aj (HE Ys))));replace T5:iu g5 TO x y c:=T5;have k5:=dy.one s5;refine Zi2;show YF (Builtin.SmallTypes.nextOf (.ref i3)>>= _) _ _ _;refine aj (PX (k5.iter Zoz (k4.iter (one D.i23.symm) (k3.iter Zoz (k2.iter (one D.i13.symm) (k1.iter ZoE h3)))))
  (k5.list (sub D.o3 m1) (k4.list (sub D.o3 m3) (k3.list (sub D.o3 m1) (k2.list (sub D.o3 m2) (k1.list (sub D.o3 m0) b0))))) hu λg6 j3 s6=>aL ?_)
 have k6:=dy.one s6;have T6:=k6 _ _ (one D.F8) T5;refine aj (s_ T6 rfl (aj (HU T6 λg7 T7 s7=>aj (HE (aL Ys)))));replace T7:iu g7 TO x y u:=T7;have k7:=dy.one s7;refine aj (s_ T7 rfl (aj (wpAny_newTuple ?_)));have hsz:g7.objs.size=s.heap.objs.size:=by rw[s7.1,s6.1,s5.1,s4.1,s3.1,s2.1,s1.1]
 have Ll:IsZip g7 z TI TO .ellipsis :=k7 _ _ (one D.wH) (k6 _ _ (one D.z3) (k5 _ _ (one D.wH) (k4 _ _ (one D.z2) (k3 _ _ (one D.wH) Zxp))));have kk:dy [z,TO,i1,i2,i3] s.heap g7:=(((((((k1.app k2).app k3).app k4).app k5).app k6).app k7)).mono λa ha=>by simp only[b8,bo]at ha;rcases ha with(((((ha|ha)|ha)|ha)|ha)|ha)|ha<;>simp[ha]
 have J1:g7.IsListIter i1 l1 YQ:=k7.iter ZoB (k6.iter (one D.i13) (k5.iter ZoB (k4.iter (one D.i12) (k3.iter ZoB j1))));have J2:g7.IsListIter i2 l2 YQ:=k7.iter ZoA (k6.iter (one D.i23) (k5.iter ZoA j2));have J3:g7.IsListIter i3 l3 YQ:=k7.iter Zoz j3;have cE:z<g7.objs.size:=bT Ll;show YF (Builtin.SmallTypes.ownedTupleHandOut Zdp ZxD>>= _) _ _ _;ext q;unfold Builtin.SmallTypes.ownedTupleHandOut;have hz8:IsZip (g7.push {cls:=Xy,data:=.seq #[x,y,u]}) z TI TO .ellipsis :=cV _ Ll;refine aj (Cz hz8 Zh λg9 Lk s9=>?_);replace Lk:IsZip g9 z TI TO Zw0:=Lk;refine Cz Lk Zh λBs xP ui=>?_;replace xP:IsZip Bs z TI TO Zw0:=xP;have k9:=dy.one s9;have k10:=dy.one ui;have up:dy [z] g7 Bs:=λc o hc e=>k10 c o hc (k9 c o hc XY);have hT:iu Bs g7.objs.size x y u:=k10 _ _ Zpu (k9 _ _ Zpu Zdb);have ach:Bs.objs.size=g7.objs.size+1:=by rw[ui.1,s9.1,gb]
 rw[hsz]at xP hT ach;refine aL Yu;show Q ZxD _;rw[hsz];exact hQ Bs xP (up _ _ ZoC T7) (up.iter ZiV J1) (up.iter ZoD J2) (up.iter ZoE J3) hT ach (λc o hc e=>up c o (λq=>hc (by rw[bo.mp q];exact m0)) (kk c o hc e))
theorem agb{z TI TO i1 i2 i3 l1 l2 l3:Addr}{k:Nat}{xs:YN}{a b c:Value}{Q:Fin->Shared->Prop}(hh:Vc)(D:ZhF)
  (hz:ZhO) (dY:Zho) (h1:ZhQ) (cX:ZcY xs) (hx:xs[k]? =none)
  (hE:∀h' e,dy [z,TO,i1,i2,i3] s.heap h'->(∃o,h'.get? e=some o/\o.cls=.type "StopIteration")->E (.ref e) {s with heap:=h'}):
  wpAny Y5 A Zr4 Q E s:=by
 have one:∀{a b:Addr},a≠b->a∉[b]:=λh q=>h Zkq;have sub:∀{l a:Addr},l∉[z,TO,i1,i2,i3]->a∈[z,TO,i1,i2,i3]->l∉[a]:=λh m q=>ZvQ;show Zvb;refine ZsZ;show Zvc;refine ZrS;show Zrt;refine aj ?_;unfold Builtin.SmallTypes.ownedTupleIsFree;refine Zte;simp only[iD];refine Zsd;refine ZuV;replace fF:IsZip g1 z TI TO .ellipsis :=fF;refine aj ?_;simp only[List.zipIdx_cons,List.zipIdx_nil,afD,O_];have k1:=dy.one s1;refine Zi2;show ZrR;refine aj (wpAny_nextOf_list_end hh (k1.iter ZiV h1) (k1.list (sub D.o1 Zh) cX) hx λg2 e s2 he=>?_);obtain⟨oe,LH,gG⟩:=he;have k2:=dy.ext s2;have ma:IsZip g2 z TI TO .ellipsis :=Zxp;have hez:e≠z:=λq=>by subst q;rw[ma]at LH;cases LH;simp at gG
 refine Cz ma Zh λg3 _ s3=>hE g3 e (((k1.app k2).app (dy.one s3)).mono λa ha=>?_) ⟨oe,dy.one s3 _ _ (one hez) LH,gG⟩;simp only[b8,bo]at ha;rcases ha with(ha|ha)|ha<;>simp[ha]
theorem akI{z TI TO i1 i2 i3 l1 l2 l3:Addr}{k:Nat}{xs ys us:YN}{x y u a b c:Value}{Q:ZcN}(D:ZhF)
  (hz:ZhO) (dY:Zho) (fJ:iu s.heap TO a b c)
  (h1:ZhQ) (h2:Zv9) (h3:Zwa) (cX:ZcY xs) (bH:Zin) (b0:Zio) (hx:xs[k]? =some x) (hy:ys[k]? =some y) (hu:us[k]? =some u)
  (hQ:∀h',Zso->iu h' TO x y u->ZwT->ZwU->ZwV->Zvj->h'.objs.size=s.heap.objs.size+1->
   dy [z,TO,i1,i2,i3] s.heap h'->Q (some (.ref s.heap.objs.size)) {s with heap:=h'}):wpAny (model prog w) A (pyNext (.ref z)) Q E s:=by
 ext cs;exact aj (zC (ZeA hT Pp (mJ Pp hT F.entry_zip_next
  (af9 D hz dY fJ h1 h2 h3 cX bH b0 hx hy hu λh' a1 a2 a3 a4 a5 a6 a7 a8=>aL (hQ h' a1 a2 a3 a4 a5 a6 a7 a8)) (F.args_zip_next_1 _))))
theorem akH{z TI TO i1 i2 i3 l1 l2 l3:Addr}{k:Nat}{xs:YN}{a b c:Value}{Q:ZcN}(hh:Vc)(D:ZhF)
  (hz:ZhO) (dY:Zho) (h1:ZhQ) (cX:ZcY xs) (hx:xs[k]? =none)
  (hQ:∀h',dy [z,TO,i1,i2,i3] s.heap h'->Q none {s with heap:=h'}):YC (pyNext Zdp) Q E s:=by
 ext cs;refine aj (zC (ZeA hT Pp (mJ Pp hT F.entry_zip_next
  (agb (a:=a) (b:=b) (c:=c) hh D hz dY h1 cX hx λh' e hk ⟨o,ho,hc⟩=>aj (HF (T:="StopIteration") (b:=true) ⟨o,ho,hc⟩ ab3 (aL (hQ _ hk)))) (F.args_zip_next_1 _))))
end
abbrev fD(h:Heap)(l1:Addr):Heap:=h.push {cls:=ZxF,data:=.fields #[.ref l1,.int 0 0]}
abbrev Cw(h:Heap)(l1 l2 l3:Addr):Heap:=(fD (ZqC l2) l3).push {cls:=Xy,data:=.seq #[.ref h.objs.size,.ref (fD h l1).objs.size,.ref (ZqC l2).objs.size]}
abbrev Cv(h:Heap)(l1 l2 l3:Addr):Heap:=(Cw h l1 l2 l3).push {cls:=Xy,data:=.seq #[.none,.none,.none]}
abbrev qB(h:Heap)(l1 l2 l3:Addr):Heap:=(Cv h l1 l2 l3).push {cls:=.type "zip",data:=.fields #[.none,.bool false,.bool false,.ref (fD (ZqC l2) l3).objs.size,.ref (Cw h l1 l2 l3).objs.size]}
theorem af8(l1 l2 l3:Addr)(xs ys us:YN):
  Meets (Builtin.«zip.__new__» ⟨[.type "zip",.ref l1,.ref l2,.ref l3],[]⟩) (λ_ R s=>ZcY xs/\Zin/\Zio/\R (.ok (.ret (.ref (ZoN l3).objs.size))) {s with heap:=qB s.heap l1 l2 l3}):=
 .of_wp λprog w A R s h=>by
  ext bp;obtain⟨cX,bH,b0,h⟩:=h;have gj:=sub_zip;have yt:Zsb l1 xs:=cX;have yr:Heap.IsList (Shared.heap ⟨fD hp l1,g,d,tk,os⟩) l2 ys:=afS bH _;have hL3:Heap.IsList (Shared.heap ⟨fD (fD hp l1) l2,g,d,tk,os⟩) l3 us:=afS (afS b0 _) _
  wp_walk using qD yt,qD yr,qD hL3
  exact Zdm
theorem aq7{prog:Program}{w:World}{A:Around}{E:Zt}{s:Shared}{l1 l2 l3:Addr}{xs ys us:YN}{Q:Zt}(cX:ZcY xs)(bH:Zin)(b0:Zio)
  (h:∀h',IsZip h' (s.heap.objs.size+5) Zxt Zxu .none ->iu h' Zxt Yn Zj2 (.ref Zxs)->
   iu h' Zxu .none .none .none ->ZuH l1 0->h'.IsListIter YS l2 0->h'.IsListIter Zxs l3 0->h'.objs.size=s.heap.objs.size+6->
   (∀c o,s.heap.get? c=some o->h'.get? c=some o)->Q (.ref (s.heap.objs.size+5)) {s with heap:=h'}):wpAny (model prog w) A (call (.type "zip") [.ref l1,.ref l2,.ref l3]) Q E s:=by
 refine callType_new F.called_zip Zk (af6 _ _ _) (af7 _ _ _) (λobj=>aga obj _ _ _) F.entry_zip_new (af8 l1 l2 l3 xs ys us) ⟨cX,bH,b0,?_⟩;have z1:(fD s.heap l1).objs.size =s.heap.objs.size+1:=gb ..;have z2:(ZiC l2).objs.size =s.heap.objs.size+2:=by rw[gb,z1]
 have z3:(fD (ZiC l2) l3).objs.size =s.heap.objs.size+3:=by rw[gb,z2]
 have z4:(Cw s.heap l1 l2 l3).objs.size =s.heap.objs.size+4:=by rw[gb,z3]
 have z5:(ZoN l3).objs.size =s.heap.objs.size+5:=by rw[gb,z4]
 have z6:(Zbt l3).objs.size =s.heap.objs.size+6:=by rw[gb,z5]
 have p1:=λ{h:Heap} {c:Addr} {o o':Obj} (e:h.get? c=some o)=>cV o' e;have g6:(Zbt l3).get? (ZoN l3).objs.size =some _:=dj _ rfl;have g5:(Zbt l3).get? (Cw s.heap l1 l2 l3).objs.size =some _:=p1 Zdb;have g4:(Zbt l3).get? (fD (ZiC l2) l3).objs.size =some _:=p1 (p1 Zdb);have g3:(Zbt l3).get? (ZiC l2).objs.size =some _:=ZnT;have g2:(Zbt l3).get? (fD s.heap l1).objs.size =some _:=p1 ZnT;have g1:(Zbt l3).get? s.heap.objs.size=some _:=p1 (p1 ZnT);show _/\_;rw[z3,z4,z5]at g6;rw[z1,z2,z3]at g4;rw[z4]at g5;rw[z2]at g3;rw[z1]at g2;rw[z5];exact⟨⟨_,g6,rfl⟩,h _ g6 g4 g5 ⟨_,g1,rfl,rfl⟩ ⟨_,g2,rfl,rfl⟩ ⟨_,g3,rfl,rfl⟩ z6 λc o x=>p1 (p1 (p1 (p1 (p1 (p1 x)))))⟩
end
section
open Vbwbal (Plan Bytes Choice signer load goesWith fits unsigned complete canEnd completion choose subsets countWays)
def bJ{α:Type}(f:Zd2):ZN->Nat
 |[]=>0
 |a::r=>f a+Xk r
theorem zL{α:Type}(f:Zd2):∀(l m:ZN),Xk (l++m)=Xk l+Xk m
 |[],m=>by rw[my];show _=0+_;omega
 |a::r,m=>by show f a+Xk (r++m)=f a+Xk r+Xk m;rw[zL f r m];omega
theorem lM{α:Type}{f g:Zd2}:∀{l:ZN},(∀a∈l,f a=g a)->Xk l=bJ g l
 |[],_=>rfl
 |a::r,h=>by show f a+Xk r=g a+bJ g r;rw[h a aY,lM λb hb=>h b Za1]
theorem zK{α β:Type}(f:β->Nat)(g:α->β):∀(l:ZN),Xk (l.map g)=bJ (λa=>f (g a)) l
 |[]=>rfl
 |a::r=>cb (f (g a)+ ·) (zK f g r)
theorem CS{α β:Type}(f:β->Nat)(g:α->Wz):∀(l:ZN),Xk (l.flatMap g)=bJ (λa=>Xk (g a)) l
 |[]=>rfl
 |a::r=>by rw[iR,zL,CS f g r];rfl
theorem Ib{α:Type}(f g:Zd2):∀(l:ZN),bJ (λa=>f a+g a) l=Xk l+bJ g l
 |[]=>rfl
 |a::r=>by show f a+g a+bJ _ r=f a+Xk r+(g a+bJ g r);rw[Ib f g r];omega
theorem zJ{α:Type}:∀(l:ZN),bJ (λ_=>0) l=0
 |[]=>rfl
 |a::r=>by show 0+bJ _ r=0;rw[zJ r]
theorem Qq{α β:Type}(f:α->β->Nat)(m:Wz):∀(l:ZN),bJ (λa=>bJ (f a) m) l=bJ (λb=>bJ (λa=>f a b) l) m
 |[]=>(zJ m).symm
 |a::r=>by show bJ (f a) m+bJ _ r=bJ (λb=>f a b+bJ (λa=>f a b) r) m;rw[Qq f m r,Ib]
theorem Ia{α:Type}(f:Zd2)(p:ZdI):∀(l:ZN),Xk (l.filter p)=bJ (λa=>if p a=true then f a else 0) l
 |[]=>rfl
 |a::r=>by
  rw[jf];show _=(if p a=true then f a else 0)+bJ _ r;rw[←Ia f p r];by_cases h:p a=true
  ·rw[af h,af h];rfl
  ·rw[ae h,ae h,Cd]
theorem adl{α:Type}(f:Zd2):∀(l:ZN) (n:Nat),l.foldl (λn a=>n+f a) n=n+Xk l
 |[],n=>rfl
 |a::r,n=>by rw[wk,adl f r];show n+f a+Xk r=n+(f a+Xk r);omega
def fe:Za->(List Nat->Nat)->Nat
 |[],F=>F []
 |x::r,F=>fe r F+fe r λa=>F WB
theorem qO:∀{l:Za} {F G:ZbW},(∀a,a.Sublist l->F a=G a)->fe l F=fe l G
 |[],F,G,h=>h [] (afP _)
 |x::r,F,G,h=>by show fe r F+_=fe r G+_;rw[qO (G:=G) λa ha=>h a (ha.cons x),qO (F:=λa=>F WB) (G:=λa=>G WB) λa ha=>h WB (ha.cons_cons x)]
theorem Qp:∀(l:Za),fe l (λ_=>0)=0
 |[]=>rfl
 |x::r=>by show fe r _+fe r _=0;rw[Qp r]
def om(l:Za)(F:ZbW)(n:Nat):Nat:=bJ (λk=>bJ F (Wu l)) (List.range n)
theorem xI(l:Za)(F:ZbW)(n:Nat):om l F Wi=om l F n+bJ F (VX l):=by unfold om;rw[Cj,zL];rfl
theorem aba(x:Nat)(r:Za)(F:ZbW):∀n,om (x::r) F Wi=om r F Wi+om r (λa=>F WB) n
 |0=>by rw[xI,xI,nA,nA];rfl
 |n+1=>by rw[xI,aba x r F n,xI r F Wi,xI r (λa=>F WB) n];have e:choose Wi (x::r)=(VX r).map ZbJ++choose Wi r:=rfl;rw[e,zL,zK];omega
theorem H_:∀(l:Za) (F:ZbW),bJ F (subsets l)=fe l F
 |[],F=>by show F []+0=F [];omega
 |x::r,F=>by
  have e:∀(l:Za) (F:ZbW),bJ F (subsets l)=om l F (l.length+1):=λl F=>by unfold subsets om;rw[CS]
  rw[e,bb,aba,xI r F Zjx,FX r Zjx (Cf _)];show om r F Zjx+0+om r _ Zjx=fe r F+fe r _;rw[←H_ r F,←H_ r,e,e,G4]
theorem ag7{U b:Za}(hs:b.Sublist U)(hn:U.Nodup)(G:ZbW):fe U (λa=>if(a.all λs=>Zdi)=true then G a else 0)=fe b G:=by
 induction hs generalizing G with
 |slnil=>rfl
 |cons x h ih=>
  rename_i b U;ext t;show fe U _+fe U _=fe b G;rw[ih h2 G,qO (F:=λa=>if((x::a).all λs=>Zdi)=true then G WB else 0) (G:=λ_=>0) λa ha=>?_,Qp,G4];rw[ae];rw[hZ,aP];exact λe=>h1 (h.subset (bx.mp e.1))
 |cons_cons x h ih=>
  rename_i b U;ext t;show fe U _+fe U _=fe b G+fe b _;have key:∀a:List Nat,a.Sublist U->(a.all λs=>(x::b).contains s)=(a.all λs=>Zdi):=λa ha=>by
   rw[iS,dh,dh];refine⟨λq s hs=>?_,λq s hs=>?_⟩
   ·have:=q s hs;rw[Hh,h_]at this;rcases this with e|e
    ·exact absurd (ha.subset (eq_of_beq e▸hs)) h1
    ·exact e
   ·rw[Hh,h_];exact .inr (q s hs)
  rw[←ih h2 G,←ih h2 λa=>G WB];congr 1
  ·refine qO λa ha=>?_;rw[key a ha]
  ·refine qO λa ha=>?_;show(if((x::a).all λs=>(x::b).contains s)=true then _ else _)=_;rw[hZ,key a ha];have:(x::b).contains x=true:=by simp
   rw[this,fm]
def fR:Za->(List Nat->Za->Nat)->Nat
 |[],F=>F [] []
 |x::r,F=>fR r Zx9+fR r λa b=>F WB b
theorem Ik{α:Type}(F:α->Za->Za->Nat)(l:ZN):∀(m:Za),fR m (λa b=>bJ (λz=>F z a b) l)=bJ (λz=>fR m (F z)) l
 |[]=>rfl
 |x::r=>by show fR r _+fR r _=bJ (λz=>fR r _+fR r _) l;rw[Ib,Ik (λz a b=>F z a (x::b)) l r,Ik (λz a b=>F z WB b) l r]
theorem QB{F G:Za->Za->Nat}(h:∀a b,F a b=G a b)(m:Za):fR m F=fR m G:=by rw[show F=G from funext λa=>funext λb=>h a b]
def more(σ:ZkC)(x s:Nat):Nat->Za:=λy=>if y=x then σ y++[s]else σ y
def kU(ok:Zbq)(ps:Za):Za->(Nat->Za)->Nat
 |[],σ=>if(ps.all λp=>Zj0)=true then 1 else 0
 |s::m,σ=>bJ (λx=>ZdZ m ZfM) ps
theorem RA(ok:Zbq)(ps:Za):∀(m:Za) (σ τ:ZkC),(∀p∈ps,σ p=τ p)->ZdZ m σ=ZdZ m τ
 |[],σ,τ,h=>by
  unfold kU;have:(ps.all λp=>Zj0)=(ps.all λp=>ok p (τ p)):=by rw[iS,dh,dh];exact⟨λq p hp=>by rw[←h p hp];exact Zen,λq p hp=>by rw[h p hp];exact Zen⟩
  rw[this]
 |s::m,σ,τ,h=>by show bJ _ ps=bJ _ ps;refine lM λx hx=>RA ok ps m _ _ λp hp=>?_;unfold more;rw[h p hp]
theorem IL(ok:Zbq)(ps:Za)(p:Nat)(hp:p∉ps):∀(m:Za) (σ:ZkC),Zom σ=fR m λa b=>if ok p (σ p++a)=true then ZdZ b σ else 0
 |[],σ=>by
  show(if _ then 1 else 0)=(if ok p (σ p++[])=true then(if _ then 1 else 0)else 0);simp only[List.all_append,fc,aP,hZ,List.all_nil,wG];by_cases h1:ok p (σ p)=true
  ·rw[af h1];by_cases h2:(ps.all λp=>Zj0)=true
   ·rw[af ⟨h2,h1⟩,af h2]
   ·rw[ae λq=>h2 q.1,ae h2]
  ·rw[ae h1,ae λq=>h1 q.2]
 |s::m,σ=>by
  show bJ (λx=>Zom ZfM) (ps++[p])=fR m _+fR m _;rw[zL];congr 1
  ·rw[lM (g:=λx=>fR m λa b=>if ok p (σ p++a)=true then ZdZ b ZfM else 0) λx hx=>by
    rw[IL ok ps p hp m];have e:ZfM p=σ p:=by unfold more;rw[ae λq:p=x=>hp (q▸hx)]
    rw[e]]
   rw[←Ik];refine QB (λa b=>?_) m;by_cases h:ok p (σ p++a)=true
   ·simp only[af h];rfl
   ·simp only[ae h];exact zJ ps
  ·show Zom ZpW+0=_;rw[G4,IL ok ps p hp m];have e:ZpW p=σ p++[s]:=by unfold more;rw[af rfl]
   rw[e];refine QB (λa b=>?_) m;rw[eC];show(if ok p (σ p++s::a)=true then _ else _)=_;rw[RA ok ps b ZpW σ λq hq=>by unfold more;rw[ae λe:q=p=>hp (e▸hq)]]
def bits:Za->Nat
 |[]=>0
 |s::r=>2 ^ s ^^^ bits r
theorem vP(i:Nat):∀(l:Za),l.Nodup->(bits l).testBit i=decide (i∈l)
 |[],_=>by show Nat.testBit 0 i=_;rw[G2];simp
 |s::r,h=>by
  obtain⟨h1,h2⟩:=df.mp h;show(2 ^ s ^^^ bits r).testBit i=_;rw[OT,vP i r h2,aeT];by_cases e:s=i
  ·subst e;simp[h1]
  ·have e':¬i=s:=λq=>UC;simp[e,e']
theorem Of(K:Za->Nat->Nat):∀(b:Za),fR b (λa c=>K a (bits c))=fe b λa=>K a Znv
 |[]=>rfl
 |s::m=>by
  show fR m (λa c=>K a (2 ^ s ^^^ bits c))+fR m (λa c=>K (s::a) (bits c))=fe m _+fe m _;rw[Of (λa z=>K a (2 ^ s ^^^ z)) m,Of (λa z=>K (s::a) z) m];congr 1
  ·refine qO λa _=>?_;show K a (2 ^ s ^^^ (bits m ^^^ bits a))=K a ((2 ^ s ^^^ bits m) ^^^ bits a);rw[aeS]
  ·refine qO λa _=>?_;show K (s::a) (bits m ^^^ bits a)=K (s::a) ((2 ^ s ^^^ bits m) ^^^ (2 ^ s ^^^ bits a));congr 1;have h0:2 ^ s ^^^ (2 ^ s ^^^ bits a)=bits a:=by rw[←aeS,Nat.xor_self,Nat.zero_xor]
   rw[Nat.xor_comm (2 ^ s) (bits m),aeS,h0]
theorem arA{a b:Za}(ha:a.Nodup)(hb:b.Nodup):(a.all λs=>Zdi)=true↔bits a&&& bits b=bits a:=by
 rw[dh];ext b
 ·intro h;refine Ci λi=>?_;rw[Ce,vP i a ha,vP i b hb];by_cases e:i∈a
  ·have:=bx.mp (h i e);simp[e,this]
  ·simp[e]
 ·intro h s hs;have:=Zx1 h;simp only[Ce,vP s a ha,vP s b hb]at this;rw[bx];simpa[hs]using this
theorem Ol(g s m:Nat):(g&&& s=0/\g|||s=m)↔(s&&& m=s/\g=m ^^^ s):=by
 ext b
 ·rintro⟨h1,rfl⟩;have hb:∀i,¬(g.testBit i=true/\s.testBit i=true):=λi q=>by have:=Zwx;simp only[Ce,G2,q.1,q.2]at this;cases this
  refine Zwd
  ·rw[Ce,G3];cases g.testBit i<;>cases s.testBit i<;>rfl
  ·rw[OT,G3];have:=hb i;revert this;cases g.testBit i<;>cases s.testBit i<;>simp
 ·rintro⟨h1,rfl⟩;have hb:∀i,s.testBit i=true->m.testBit i=true:=λi q=>by have:=Zwx;simp only[Ce,q,fm]at this;exact this
  refine Zwd
  ·rw[Ce,OT,G2];have:=hb i;revert this;cases m.testBit i<;>cases s.testBit i<;>simp
  ·rw[G3,OT];have:=hb i;revert this;cases m.testBit i<;>cases s.testBit i<;>simp
abbrev dz:=ZV
def dH(k:dz)(m:Nat):Nat:=bJ (λz=>if z.1=m then z.2 else 0) k
def jJ:dz->Nat->Nat->dz
 |[],m,n=>[(m,n)]
 |z::r,m,n=>if z.1=m then(m,z.2+n)::r else z::jJ r m n
theorem ac6(m n m':Nat):∀(k:dz),dH (jJ k m n) m'=dH k m'+(if m=m' then n else 0)
 |[]=>by show(if m=m' then n else 0)+0=0+_;omega
 |z::r=>by
  unfold jJ;have ih:=ac6 m n m' r;by_cases h:z.1=m
  ·rw[af h];show(if m=m' then z.2+n else 0)+dH r m'=(if z.1=m' then z.2 else 0)+dH r m'+_;rw[h];split<;>omega
  ·rw[ae h];show(if z.1=m' then z.2 else 0)+dH Zj3 m'=(if z.1=m' then z.2 else 0)+dH r m'+_;rw[ih];omega
theorem aez(m n:Nat):∀(k:dz),(jJ k m n).map Zg=if m∈k.map Zg then k.map Zg else k.map Zg++[m]
 |[]=>rfl
 |z::r=>by
  unfold jJ;by_cases h:z.1=m
  ·rw[af h];rw[af (by rw[cw,h];exact aY),cw,cw,h]
  ·rw[ae h,cw,aez m n r,cw];by_cases h2:m∈r.map Zg
   ·rw[af h2,af (ZE h2)]
   ·rw[ae h2,ae λq=>(aJ.mp q).elim (λe=>h e.symm) h2];rfl
def jg(f:dz)(g:Xr)(s:Nat):dz:=if g.1&&& s=0 then jJ f (g.1|||s) g.2 else f
def xy(k:dz)(mP:Za):dz:=k.foldl (λf g=>Zo2) []
theorem anU(f:dz)(g:Xr)(s m:Nat):dH (jg f g s) m=dH f m+(if g.1&&& s=0/\g.1|||s=m then g.2 else 0):=by
 unfold jg;by_cases h:g.1&&& s=0
 ·rw[af h,ac6];simp[h]
 ·rw[ae h,ae λq=>h q.1];rfl
theorem ac4(g:Xr)(m:Nat):∀(mP:Za) (f:dz),dH Zo2 m=dH f m+ZrT mP
 |[],f=>rfl
 |s::r,f=>by rw[wk,ac4 g m r,anU,Nat.add_assoc];rfl
theorem ac5(mP:Za)(m:Nat):∀(k f:dz),dH (k.foldl (λf g=>Zo2) f) m=dH f m+bJ (λg=>ZrT mP) k
 |[],f=>rfl
 |g::r,f=>by rw[wk,ac5 mP m r,ac4,Nat.add_assoc];rfl
theorem anV(k:dz)(mP:Za)(m:Nat):dH (xy k mP) m=bJ (λs=>if s&&& m=s then dH k (m ^^^ s)else 0) mP:=by
 unfold xy;rw[ac5,Qq];show 0+_=_;rw[Cd];refine lM λs _=>?_;by_cases h:s&&& m=s
 ·rw[af h];refine lM λg _=>?_;by_cases e:g.1=m ^^^ s
  ·rw[af e,af ((Ol _ _ _).mpr ⟨h,e⟩)]
  ·rw[ae e,ae λq=>e ((Ol _ _ _).mp q).2]
 ·rw[ae h];rw[lM (g:=λ_=>0) λg _=>by rw[ae λq=>h ((Ol _ _ _).mp q).1],zJ]
def nothing:Nat->Za:=λ_=>[]
def Tells(ok:Zbq)(U:Za)(qs:Za)(k:dz):Prop:=∀b,b.Sublist U->dH k (bits b)=kU ok qs b nothing
theorem agW(ok:Zbq)(U:Za)(hn:U.Nodup):Tells ok U [] [(0,1)]:=λb hb=>by
 show(if 0=bits b then 1 else 0)+0=_;cases b with
 |nil=>rfl
 |cons s r=>
  have h:¬0=bits Za3:=λe=>by have:=Zx1 e;simp only[G2,vP s _ (hb.nodup hn)]at this;simp at this
  rw[ae h];rfl
theorem agX{ok:Zbq}{U qs:Za}{k:dz}{p:Nat}(hn:U.Nodup)(hp:p∉qs)(h:Tells ok U qs k):Tells ok U (qs++[p]) (xy k (((subsets U).filter (ok p)).map bits)):=λb hb=>by
 have hbn:=hb.nodup hn;rw[anV,IL ok qs p hp,zK,Ia,H_];have e1:fe U (λa=>if ok p a=true then(if bits a&&& bits b=bits a then dH k Znv else 0)else 0)=fe U (λa=>if(a.all λs=>Zdi)=true then(if ok p a=true then dH k Znv else 0)else 0):=by
  refine qO λa ha=>?_;have hw:=arA (ha.nodup hn) hbn;by_cases h1:ok p a=true
  ·by_cases h2:(a.all λs=>Zdi)=true
   ·rw[af h1,af h1,af h2,af (hw.mp h2)]
   ·rw[af h1,af h1,ae h2,ae λq=>h2 (hw.mpr q)]
  ·rw[ae h1,ae h1];split<;>rfl
 rw[e1,ag7 hb hn,←Of (λa z=>if ok p a=true then dH k z else 0)];have sub:∀(b:Za) (F G:Za->Za->Nat),(∀a c,c.Sublist b->F a c=G a c)->fR b F=fR b G:=by
  intro b
  induction b with
  |nil=>intro F G h;exact h [] [] (afP _)
  |cons x r ih=>
   intro F G h;show fR r _+fR r _=fR r _+fR r _;rw[ih Zx9 (λa b=>G a (x::b)) λa c hc=>h a (x::c) (hc.cons_cons x),ih (λa b=>F WB b) (λa b=>G WB b) λa c hc=>h WB c (hc.cons x)]
 refine sub b _ _ λa c hc=>?_;show(if ok p a=true then dH k (bits c)else 0)=if ok p ([]++a)=true then kU ok qs c nothing else 0
 rw[my,h c (hc.trans hb)]
end
section
open Vbwbal (Plan Bytes Choice signer load goesWith fits unsigned complete canEnd completion choose subsets countWays)
structure af5(P:Plan)(ab:Za)(c w:Choice):Prop where
 yV:∀z∈w,z.2<P.persons.length/\Zk4 z.1 z.2=true/\W7 c z.1 z.2=true
 unlike:∀s t,(s,t)∈P.unlike->∀x,XC s=some x->XC t≠some x
 alike:∀s t,(s,t)∈P.alike->∀x y,XC s=some x->XC t=some y->x=y
 room:∀x,Yx x+load w x<=YE x
theorem P7(P:Plan)(ab:Za)(aK:Zba):∀(w c:Choice),(w.map Zg).Nodup ->(∀z∈w,ZW z.1=none)->(∀x,Yx x<=YE x)->(WX c↔af5 P ab c w)
 |[],c,_,_,hl=>by refine⟨λ_=>⟨λz hz=>VG,λs t _ x h=>Ve,λs t _ x y h=>Ve,λx=>hl x⟩,λ_=>trivial⟩
 |(s,x)::w,c,hn,hs,hl=>by
  obtain⟨kF,fH⟩:=Zb7;have fX:ZW s=none:=hs (s,x) aY;have rQ:∀z∈w,z.1≠s:=λz hz e=>kF (by show s∈w.map Zg;rw[←e];exact Zbh)
  have va:∀z∈w,signer Yi z.1=none:=λz hz=>by rw[nV fX,ae ZkO];exact hs z ZgS
  have ih:=λve=>P7 P ab aK w Yi fH va ve;have cX:Yx x<YE x->∀y,load Yi y<=YE y:=λh y=>by
   rw[rL];have:=hl y;by_cases e:x=y
   ·ext x;omega
   ·rw[ae e];omega
  ext b
  ·rintro⟨⟨h1,h2,h3⟩,hv⟩;have hx:Yx x<YE x:=((Zd0 x).mp h3).2.2;have q:=(ih (cX hx)).mp hv;have gs:∀z∈w,W7 c z.1 z.2=true/\(z.1∈Xx s->z.2=x)/\(z.1∈Y7 s∨Xh x-1=0->z.2≠x):=λz hz=>(Fy fX ZkO hx).mp (q.yV z hz).2.2;refine Zrl
   ·rcases aJ.mp hz with e|hz
    ·rw[e];exact⟨h1,h2,h3⟩
    ·exact⟨(q.yV z hz).1,(q.yV z hz).2.1,(gs z hz).1⟩
   ·rw[iV]at ha hb;by_cases ea:s=a
    ·rw[af ea]at ha;by_cases eb:s=b
     ·exact aK _ (.inl dc) ZyA
     ·rw[ae eb]at hb;have:=(gs _ (nW hb)).2.2 (.inl Zs3);exact this (bY ha).symm
    ·rw[ae ea]at ha;by_cases eb:s=b
     ·rw[af eb]at hb;have:=(gs _ (nW ha)).2.2 (.inl Zs4);exact this (bY hb).symm
     ·rw[ae eb]at hb;exact q.unlike a b dc y ha hb
   ·rw[iV]at ha hb;by_cases ea:s=a
    ·rw[af ea]at ha;by_cases eb:s=b
     ·exact absurd ZyA (aK _ (.inr dc))
     ·rw[ae eb]at hb;have:=(gs _ (nW hb)).2.1 Zs3;exact((bY ha).symm.trans this.symm)
    ·rw[ae ea]at ha;by_cases eb:s=b
     ·rw[af eb]at hb;have:=(gs _ (nW ha)).2.1 Zs4;exact this.trans (bY hb)
     ·rw[ae eb]at hb;exact q.alike a b dc y y' ha hb
   ·have:=q.room y;rw[rL]at this;rw[uP];show Yx y+((if x=y then 1 else 0)+load w y)<=_;omega
  ·intro q;have h:=q.yV (s,x) aY;have hx:Yx x<YE x:=((Zd0 x).mp h.2.2).2.2;refine⟨h,(ih (cX hx)).mpr Zrl⟩
   ·have br:=q.yV z ZgS;have sz:signer ((s,x)::w) z.1=some z.2:=by rw[iV,ae λe=>ZkO e.symm];exact w4 fH hz
    have ss:signer ((s,x)::w) s=some x:=by rw[iV,af rfl]
    refine⟨br.1,br.2.1,(Fy fX ZkO hx).mpr ⟨br.2.2,λhp=>?_,λhp e=>?_⟩⟩
    ·rcases gC.mp hp with hp|hp
     ·exact(q.alike _ _ hp _ _ ss sz).symm
     ·exact q.alike _ _ hp _ _ sz ss
    ·rcases hp with hp|hp
     ·rcases gC.mp hp with hp|hp
      ·exact q.unlike _ _ hp _ ss (by rw[sz,e])
      ·exact q.unlike _ _ hp _ (by rw[sz,e]) ss
     ·have hr:=q.room x;rw[uP,af rfl]at hr;have acu:0<load w x:=by unfold load;exact List.length_pos_of_mem (bD.mpr ⟨hz,Zdn⟩)
      unfold eD at hp;omega
   ·have e1:s≠a:=λe=>rQ _ (nW ha) e.symm;have e2:s≠b:=λe=>rQ _ (nW hb) e.symm;exact q.unlike a b dc y (by rw[iV,ae e1];exact ha) (by rw[iV,ae e2];exact hb)
   ·have e1:s≠a:=λe=>rQ _ (nW ha) e.symm;have e2:s≠b:=λe=>rQ _ (nW hb) e.symm;exact q.alike a b dc y y' (by rw[iV,ae e1];exact ha) (by rw[iV,ae e2];exact hb)
   ·have:=q.room y;rw[uP]at this;have this:Yx y+((if x=y then 1 else 0)+load w y)<=YE y:=this;rw[rL];omega
def asg(ps:Za):Za->List Choice
 |[]=>[[]]
 |s::m=>ps.flatMap λx=>(asg ps m).map λw=>(s,x)::w
theorem Oj(ps:Za):∀(l:Za) (w:Choice),w∈asg ps l->w.map Zg=l/\∀z∈w,z.2∈ps
 |[],w,h=>by rw[bo.mp h];exact⟨rfl,λz hz=>VG⟩
 |s::m,w,h=>by
  obtain⟨x,hx,h⟩:=wg.mp h;obtain⟨v,hv,rfl⟩:=UN;obtain⟨h1,h2⟩:=Oj ps m v hv;refine⟨by rw[cw,h1],λz hz=>?_⟩;rcases aJ.mp hz with e|hz
  ·rw[e];exact hx
  ·exact h2 z hz
open Classical in
noncomputable def ind(p:Prop):Nat:=if p then 1 else 0
theorem Lj{p q:Prop}(h:p↔q):ind p=ind q:=by rw[propext h]
theorem ab9{p:Prop}(h:p):ind p=1:=by unfold ind;rw[af h]
theorem aca{p:Prop}(h:¬p):ind p=0:=by unfold ind;rw[ae h]
def kY(P:Plan)(ab:Za):Za:=(List.range P.persons.length).filter λx=>!(ab.contains x)
theorem adX(P:Plan)(ab:Za):∀(l:Za) (c:Choice),Zc7 l c=bJ (λw=>ind (WX c)) (asg ZdD l)
 |[],c=>by show 1=ind (iO P ab [] c)+0;rw[ab9 (show iO P ab [] c from trivial)]
 |s::r,c=>by
  have e1:Zc7 Za3 c=(List.range P.persons.length).foldl (λn x=>n+(if(YD x&&YO x)=true then Zc7 r Yi else 0)) 0:=by
   show(List.range P.persons.length).foldl _ 0=_;congr 1;funext n x;by_cases h:(YD x&&YO x)=true
   ·rw[af h,af h]
   ·rw[ae h,ae h];rfl
  rw[e1,adl,Cd];show _=bJ _ ((kY P ab).flatMap λx=>(asg ZdD r).map λw=>(s,x)::w);rw[CS]
  conv=>rhs;arg 2;unfold kY
  rw[Ia];refine lM λx hx=>?_;rw[zK];have hxn:=dS.mp hx;by_cases h:(YD x&&YO x)=true
  ·have h':=h;rw[aP]at h';rw[af h,af (by rw[Nr h'.1];rfl),adX P ab r];refine lM λw _=>Lj ?_;exact⟨λq=>⟨⟨hxn,h'.1,h'.2⟩,q⟩,λq=>q.2⟩
  ·rw[ae h];rw[lM (g:=λ_=>0) λw _=>aca λq=>h (by rw[q.1.2.1,q.1.2.2];rfl),zJ];split<;>rfl
def px(w:Choice)(p:Nat):Za:=(w.filter λz=>z.2==p).map Zg
theorem RB(ok:Zbq)(ps:Za):∀(l:Za) (σ:ZkC),ZdZ l σ=bJ (λw=>ind (∀p∈ps,ok p (σ p++px w p)=true)) (asg ps l)
 |[],σ=>by
  show(if _ then 1 else 0)=ind _+0;by_cases h:(ps.all λp=>Zj0)=true
  ·rw[af h,ab9 λp hp=>?_];show ok p (σ p++[])=true;rw[fc];exact dh.mp h p hp
  ·rw[ae h,aca λq=>h (dh.mpr λp hp=>?_)];have:=Zen;show ok p (σ p)=true;rw[←fc (σ p)];ext d
 |s::m,σ=>by
  show bJ _ ps=bJ _ (ps.flatMap λx=>(asg ps m).map λw=>(s,x)::w);rw[CS];refine lM λx hx=>?_;rw[RB ok ps m,zK];refine lM λw _=>Lj ?_;have e:∀p,ZfM p++px w p=σ p++px ((s,x)::w) p:=λp=>by
   unfold more px;rw[jf];by_cases h:p=x
   ·subst h;rw[af rfl,af Zh,eC];rfl
   ·have h':¬((s,x).2==p)=true:=by show¬(x==p)=true;simpa using λq=>h q.symm
    rw[ae h,ae h']
  exact⟨λq p hp=>by rw[←e];exact Zen,λq p hp=>by rw[e];exact Zen⟩
def jV(ps:ZV)(U:Za):ZV:=ps.filter λy=>U.contains y.1&&U.contains y.2
def mK(P:Plan)(ab:Za)(c:Choice)(p:Nat)(sh:Za):Bool:=
 decide ((sh.length:Int)<=(cy P p:Int)-(load c p:Int))&&((sh.all λs=>(ZJ s).contains p)&&
  (!((jV P.unlike (unsigned P c)).any λy=>sh.contains y.1&&sh.contains y.2)&&((jV P.alike (unsigned P c)).all λy=>sh.contains y.1==sh.contains y.2)))
theorem Ec{ps:ZV}{U:Za}{y:Xr}:y∈jV ps U↔y∈ps/\y.1∈U/\y.2∈U:=by unfold jV;rw[bD,aP,bx,bx]
theorem Qi(P:Plan)(ab:Za)(c:Choice)(p:Nat)(sh:Za):UK p sh=true↔((sh.length:Int)<=(cy P p:Int)-(load c p:Int))/\(∀s∈sh,p∈ZJ s)/\
  (∀y∈P.unlike,y.1∈Z9 c->y.2∈Z9 c->¬(y.1∈sh/\y.2∈sh))/\(∀y∈P.alike,y.1∈Z9 c->y.2∈Z9 c->(y.1∈sh↔y.2∈sh)):=by
 unfold mK;rw[aP,aP,aP,bX,dh,dh,wF,afO];refine F6 di (F6 ?_ (F6 ?_ ?_))
 ·exact⟨λh s hs=>bx.mp (h s hs),λh s hs=>bx.mpr (h s hs)⟩
 ·ext b
  ·intro h y hy h1 h2 q;refine ZuY ?_;rw[aP,bx,bx];exact q
  ·intro h y hy q;obtain⟨h0,h1,h2⟩:=Ec.mp hy;rw[aP,bx,bx]at q;exact h y h0 h1 h2 q
 ·ext b
  ·intro h y hy h1 h2;have:=eq_of_beq ZuY;rw[←bx,←bx,this]
  ·intro h y hy;obtain⟨h0,h1,h2⟩:=Ec.mp hy;have:=h y h0 h1 h2;rw[oO,iS,bx,bx];ext d
theorem nX{w:Choice}{p s:Nat}:s∈px w p↔(s,p)∈w:=by
 unfold px;rw[aN];ext b
 ·rintro⟨z,hz,rfl⟩;obtain⟨h1,h2⟩:=bD.mp hz;rw[←eq_of_beq h2];exact h1
 ·intro h;exact⟨(s,p),bD.mpr ⟨h,Zh⟩,rfl⟩
theorem ajW(P:Plan)(ab:Za)(c w:Choice)(hl:Ze6)(hw:w∈asg ZdD Z7):af5 P ab c w↔∀p∈kY P ab,UK p (px w p)=true:=by
 obtain⟨hk,nh⟩:=Oj _ _ _ hw;have hn:(w.map Zg).Nodup :=by rw[hk];exact Vr
 have aa6:∀s x,x∈ZJ s↔x<P.persons.length/\YD x=true/\YO x=true:=λs x=>by unfold bR;rw[bD,dS,aP]
 have sg:∀s x,XC s=some x↔(s,x)∈w:=λs x=>⟨nW,w4 hn⟩;have ex:∀s,s∈Z9 c->∃x,(s,x)∈w:=λs hs=>by rw[←hk]at hs;obtain⟨z,hz,rfl⟩:=aN.mp hs;exact⟨z.2,hz⟩
 have ky:∀s x,(s,x)∈w->s∈Z9 c:=λs x h=>by rw[←hk];exact aN.mpr ⟨_,h,rfl⟩
 have un:∀s x y,(s,x)∈w->(s,y)∈w->x=y:=λs x y h1 h2=>by have e1:=(sg s x).mpr h1;rw[(sg s y).mpr h2]at e1;exact(bY e1).symm
 have len:∀x,(px w x).length =load w x:=λx=>by unfold px load;rw[aq]
 ext b
 ·intro q p hp;refine(Qi P ab c p _).mpr ⟨?_,λs hs=>(aa6 s p).mpr (q.yV _ (nX.mp hs)),λy hy h1 h2 h=>?_,λy hy h1 h2=>?_⟩
  ·rw[len];have:=q.room p;omega
  ·exact q.unlike y.1 y.2 hy p ((sg _ _).mpr (nX.mp h.1)) ((sg _ _).mpr (nX.mp h.2))
  ·obtain⟨x1,e1⟩:=ex _ h1;obtain⟨x2,e2⟩:=ex _ h2;have exy:=q.alike y.1 y.2 hy x1 x2 ((sg _ _).mpr e1) ((sg _ _).mpr e2);rw[nX,nX];ext b
   ·intro h;rw[un _ _ _ h e1,exy];exact e2
   ·intro h;rw[un _ _ _ h e2,←exy];exact e1
 ·intro q;have q':=λp hp=>(Qi P ab c p _).mp Zen;refine⟨λz hz=>?_,λs t aT x h1 h2=>?_,λs t aT x y h1 h2=>?_,λx=>?_⟩
  ·exact(aa6 z.1 z.2).mp ((q' z.2 (nh z hz)).2.1 z.1 (nX.mpr hz))
  ·ext cS;exact(q' x (nh _ m1)).2.2.1 (s,t) aT (ky _ _ m1) (ky _ _ m2) ⟨nX.mpr m1,nX.mpr m2⟩
  ·ext cS;have:=((q' x (nh _ m1)).2.2.2 (s,t) aT (ky _ _ m1) (ky _ _ m2)).mp (nX.mpr m1);exact un _ _ _ (nX.mp this) m2
  ·by_cases hx:x∈kY P ab
   ·have:=(q' x hx).1;rw[len]at this;omega
   ·have h0:load w x=0:=by unfold load;rw[Cp,List.filter_eq_nil_iff];intro z hz e;exact hx (eq_of_beq e▸nh z hz)
    rw[h0];exact hl x
theorem aqy(P:Plan)(ab:Za)(c:Choice)(aK:Zba)(hl:Ze6):
  countWays P ab Z7 c=kU UK ZdD Z7 nothing:=by
 rw[adX,RB];refine lM λw hw=>Lj ?_;obtain⟨hk,nh⟩:=Oj _ _ _ hw;have hn:(w.map Zg).Nodup :=by rw[hk];exact Vr
 rw[P7 P ab aK w c hn (λz hz=>(xF.mp (by rw[←hk];exact Zbh)).2) hl,ajW P ab c w hl hw];exact di
theorem aqx(P:Plan)(ab:Za)(c:Choice)(aK:Zba)(hl:Ze6){k:dz}(h:Tells UK Z7 ZdD k):
  dH k (bits Z7)=Zc7 Z7 c:=by
 rw[aqy P ab c aK hl];exact h _ (afP _)
theorem aiI{m s:Nat}:m<128->s<7->m.testBit s=false->m+2 ^ s=m ^^^ 2 ^ s/\m ^^^ 2 ^ s<128:=by
 have:∀m<128,∀s<7,m.testBit s=false->m+2 ^ s=m ^^^ 2 ^ s/\m ^^^ 2 ^ s<128:=by decide+kernel
 exact λa b=>this m a s b
theorem Og:∀(l:Za),l.Nodup->(∀s∈l,s<7)->bits l<128/\bits l=ZoY l
 |[],_,_=>⟨Zk,rfl⟩
 |s::r,hn,h=>by
  ext t;obtain⟨q1,q2⟩:=Og r h2 λt ht=>h t ZkS;have hb:(bits r).testBit s=false:=by rw[vP s r h2];simpa using h1
  obtain⟨e1,e2⟩:=aiI q1 (h s aY) hb;show 2 ^ s ^^^ bits r<128/\2 ^ s ^^^ bits r=2 ^ s+ZoY r;rw[Nat.xor_comm,←q2];exact⟨e2,by rw[←e1];omega⟩
theorem ary{a b:Nat}(ha:a<128)(hb:b<128):a|||b<128:=Nat.or_lt_two_pow (n:=7) ha hb
end
section
open PyVbwbal (shape whole)
theorem agn(c:Uz):whole c=c:=by unfold whole;split<;>rfl
def NC:Za:=[0,0,2,2,0,0,0,1,2,1,1,2,0,0,0]
theorem ahA{p:Int}{n k:Nat}(h:shape p=some (n,k)):∃m:Nat,p=(m:Int)/\m<15/\NC[m]? =some n/\((k=1/\(m=0∨m=8))∨(k=0/\m≠0/\m≠8)):=by
 unfold shape at h;by_cases h0:p=0
 ·rw[af h0]at h;cases h
  exact⟨0,h0,Zk,rfl,Zk⟩
 rw[ae h0]at h;by_cases h1:p=1
 ·ext aE
  exact⟨1,h1,Zk,rfl,Zk⟩
 ext H;by_cases h2:p=2
 ·ext aF
  exact⟨2,h2,Zk,rfl,Zk⟩
 rw[ae h2]at h;by_cases h3:p=3
 ·ext aG
  exact⟨3,h3,Zk,rfl,Zk⟩
 rw[ae h3]at h;by_cases h4:p=4
 ·rw[af h4]at h;cases h
  exact⟨4,h4,Zk,rfl,Zk⟩
 rw[ae h4]at h;by_cases h5:p=5
 ·rw[af h5]at h;cases h
  exact⟨5,h5,Zk,rfl,Zk⟩
 rw[ae h5]at h;by_cases h6:p=6
 ·rw[af h6]at h;cases h
  exact⟨6,h6,Zk,rfl,Zk⟩
 rw[ae h6]at h;by_cases h7:p=7
 ·rw[af h7]at h;cases h
  exact⟨7,h7,Zk,rfl,Zk⟩
 rw[ae h7]at h;by_cases h8:p=8
 ·rw[af h8]at h;cases h
  exact⟨8,h8,Zk,rfl,Zk⟩
 rw[ae h8]at h;by_cases h9:p=9
 ·rw[af h9]at h;cases h
  exact⟨9,h9,Zk,rfl,Zk⟩
 rw[ae h9]at h;by_cases Mr:p=10
 ·rw[af Mr]at h;cases h
  exact⟨10,Mr,Zk,rfl,Zk⟩
 rw[ae Mr]at h;by_cases Mq:p=11
 ·rw[af Mq]at h;cases h
  exact⟨11,Mq,Zk,rfl,Zk⟩
 rw[ae Mq]at h;by_cases Mp:p=12
 ·rw[af Mp]at h;cases h
  exact⟨12,Mp,Zk,rfl,Zk⟩
 rw[ae Mp]at h;by_cases Mo:p=13
 ·rw[af Mo]at h;cases h
  exact⟨13,Mo,Zk,rfl,Zk⟩
 rw[ae Mo]at h;by_cases Mn:p=14
 ·rw[af Mn]at h;cases h
  exact⟨14,Mn,Zk,rfl,Zk⟩
 rw[ae Mn]at h;cases h
structure Ho(l:ZK)(c:Uz)(t:ZK)(m n:Nat)(nums text:ZK)(places:Nat):Prop where
 head:l[0]? =some (m:Int)
 lt:m<15
 cnt:NC[m]? =some n
 akA:nums=(l.drop 1).take n
 aaN:nums.length=n
 row:(m=0∨m=8)->∃k:Nat,l[1+n]? =some (k:Int)/\text=(l.drop (1+n+1)).take k/\text.length=k/\places=1+n+1+k/\c=[(m:Int)::nums,text]
 bare:m≠0->m≠8->text=[]/\places=1+n/\c=[(m:Int)::nums]
 rest:t=l.drop places
 pos:0<places
 le:places<=l.length
theorem ahN{l x s:ZK}(h:PyFlat.row l=some (x,s)):∃k:Nat,l[0]? =some (k:Int)/\x=(l.drop 1).take k/\x.length=k/\s=l.drop (1+k)/\1+k<=l.length:=by
 cases l with
 |nil=>cases h
 |cons n r=>
  have h:(if 0<=n/\n.toNat<=r.length then some (r.take n.toNat,r.drop n.toNat)else none)=some (x,s):=h;by_cases hc:0<=n/\n.toNat<=r.length
  ·rw[af hc]at h;have e:=bY h;have e1:x=r.take n.toNat:=(Zf4 e).symm;have e2:s=r.drop n.toNat:=(Zf5 e).symm;refine⟨n.toNat,by rw[mD hc.1];rfl,e1,by rw[e1,eY];omega,?_,ZoZ⟩;rw[e2,G5];rfl
  ·rw[ae hc]at h;cases h
theorem arb{l:ZK}{c:Uz}{t:ZK}(h:Zn7 l=some (c,t)):∃m n nums text places,Zn5 text places:=by
 cases l with
 |nil=>cases h
 |cons p r=>
  have h:(match shape p with |none=>none|some (n,k)=>if r.length<n then none else match PyFlat.rows k ZbT with |none=>none|some (xs,t)=>ZvT)=some (c,t):=h;cases hs:shape p with
  |none=>
   rw[hs]at h;cases h
  |some nk=>
   obtain⟨n,k⟩:=nk;rw[hs]at h;have h:(if r.length<n then none else match PyFlat.rows k ZbT with |none=>none|some (xs,t)=>ZvT)=some (c,t):=h;by_cases hl:r.length<n
   ·rw[af hl]at h;cases h
   rw[ae hl]at h;obtain⟨m,rfl,hm,hn,hk⟩:=ahA hs;have hlen:(r.take n).length =n:=by rw[eY];omega
   rcases hk with⟨rfl,hk⟩|⟨rfl,gT,vf⟩
   ·cases hr:PyFlat.row ZbT with
    |none=>
     have:PyFlat.rows 1 ZbT=none:=by unfold PyFlat.rows;rw[hr]
     rw[this]at h;cases h
    |some xs=>
     obtain⟨x,s⟩:=xs;have:PyFlat.rows 1 ZbT=some ([x],s):=by unfold PyFlat.rows;rw[hr];rfl
     rw[this]at h;have e:=bY h;have ec:c=[(m:Int)::r.take n,x]:=(Zf4 e).symm;have et:t=s:=(Zf5 e).symm;obtain⟨q,q1,q2,q3,q4,q5⟩:=ahN hr;rw[mB]at q5;refine⟨m,n,r.take n,x,1+n+1+q,rfl,hm,hn,rfl,hlen,λ_=>⟨q,?_,?_,q3,rfl,ec⟩,λh1 h2=>?_,?_,Zb,ZoZ⟩
     ·rw[afz]at q1;rw[G5 1 n,afB];exact q1
     ·rw[q2,zo,show 1+n+1=(n+1)+1 by omega,afJ]
     ·rcases hk with e|e
      ·exact ZdV h1
      ·exact ZdV h2
     ·rw[et,q4,zo,show 1+n+1+q=(n+(1+q))+1 by omega,afJ]
   ·have:PyFlat.rows 0 ZbT=some ([],ZbT):=rfl;rw[this]at h;have e:=bY h;have ec:c=[(m:Int)::r.take n]:=(Zf4 e).symm;have et:t=r.drop n:=(Zf5 e).symm;refine⟨m,n,r.take n,[],1+n,rfl,hm,hn,rfl,hlen,λq=>?_,λ_ _=>⟨rfl,rfl,ec⟩,?_,Zb,ZoZ⟩
    ·rcases q with q|q
     ·exact absurd q gT
     ·exact absurd q vf
    ·rw[et,G5 1 n,afJ]
def Left(l:ZK)(cs:ZdR):Prop:=∃f,ZnJ f l=some cs
theorem alx{cs:ZdR}(h:Left [] cs):cs=[]:=by obtain⟨f,h⟩:=h;cases f<;>exact(bY h).symm
theorem aly{l:ZK}{cs:ZdR}(h:Left l cs)(hl:l≠[]):∃c t r,Zn7 l=some (c,t)/\cs=c::r/\Left t r:=by
 obtain⟨f,h⟩:=h;cases l with
 |nil=>exact absurd rfl hl
 |cons p q=>
  cases f with
  |zero=>cases h
  |succ f=>
   have h:(match PyFlat.call shape (p::q)with |none=>none|some (c,t)=>match PyFlat.calls shape f t with |none=>none|some cs=>some (c::cs))=some cs:=h;cases hc:Zn7 (p::q)with
   |none=>
    rw[hc]at h;cases h
   |some ct=>
    obtain⟨c,t⟩:=ct;rw[hc]at h;have h:(match PyFlat.calls shape f t with |none=>none|some cs=>some (c::cs))=some cs:=h;cases hr:ZnJ f t with
    |none=>
     rw[hr]at h;cases h
    |some r=>
     rw[hr]at h;exact⟨c,t,r,rfl,(bY h).symm,f,hr⟩
theorem aq6{l:ZK}{cs:ZdR}(h:PyVbwbal.calls l=some cs):Left l cs:=by
 unfold PyVbwbal.calls at h;cases hc:ZnJ l.length l with
 |none=>
  rw[hc]at h;cases h
 |some ds=>
  rw[hc]at h;have e:=bY h;rw[gv (g:=id) (λc _=>agn c),G_]at e;exact⟨_,by rw[hc,e]⟩
end
end
section
open PySem PySem.Spec PyProof.Rows L2
open Vbwbal (Plan Bytes Choice)
section
open Sem (wp)
open AutoSeq1 (wpAny_loadPart')
abbrev wt(v:Value):Zal:=[(Str.ofString "start",v)]
theorem agY(a v:Value):checkTypeCall "enumerate" ⟨[a],wt v⟩=pure ():=by kernel_rfl
theorem akS(a v:Value):checkBuiltinCall "enumerate.__new__" ⟨[.type "enumerate",a],wt v⟩=pure ():=by kernel_rfl
theorem ar4(o a v:Value):Zww ⟨[o,a],wt v⟩:=by unfold argsOk;rw[ZvD (n:=['_','_','t','i','n','i','_','_']) (o:=['t','c','e','j','b','o']) Uq F.owner_object];kernel_rfl
abbrev BB(hp:Heap)(l:Addr):Heap:=hp.push {cls:=ZxF,data:=.fields #[.ref l,.int 0 0]}
abbrev BA(hp:Heap)(l:Addr)(n:Int):Heap:=(BB hp l).push {cls:=Uk,data:=.fields #[.none,.bool false,.ref hp.objs.size,rawInt n,.none,.none]}
theorem akL(l:Addr)(xs:YN)(m:Nat)(dd:Ws)(sl:ZdF)(t:Tok):
  Meets (Builtin.«enumerate.__new__» ⟨[.type "enumerate",.ref l],wt (Vt t)⟩) (λ_ R s=>s.heap.get? l=some {cls:=Yg,dict:=dd,data:=.seq xs m,slots:=sl}/\
   R (.ok (.ret (.ref (BB s.heap l).objs.size))) {s with heap:=BA s.heap l 1}):=
 .of_wp λprog w A R s h=>by
  ext bp;obtain⟨hl,h⟩:=h;have gj:=sub_enumerate;have hL:Zsb l xs:=⟨_,hl,rfl,m,rfl⟩
  wp_walk using HD hl
  refine wpAny_stack_any λst=>Ys;split
  ·rename_i c _ _ _ _ _;cases(c==Value.type "enumerate")
   ·wp_walk using HD hl,qD hL
    exact Zdm
   ·wp_walk using HD hl,qD hL
    exact Zdm
  ·wp_walk using HD hl,qD hL
   exact Zdm
theorem amc{self a v:Value}:Meets (Builtin.«object.__init__» ⟨[self,a],wt v⟩) (λ_ R s=>s.TypeIs self "enumerate"/\R Zyg s):=by
 have hl:=afT.init.lookup;have hm:=afT.made;have aK:(some "enumerate.__new__" != some "object.__new__")=true:=by decide
 refine Meets.of_wp λprog w A R s ⟨hT,hq⟩=>?_
 repeat(any_goals(first |assumption|wp_step))
 exact⟨_,rfl,hq⟩
section
variable {prog:Program}{w:World}{A:Around}{E:Zt}{s:Shared}
theorem arp{l:Addr}{xs:YN}{t:Tok}{Q:Zt}(hL:Zfp xs)
  (h:∀h',IsEnum h' YS s.heap.objs.size 1 .none ->ZuH l 0->(∀b o,s.heap.get? b=some o->h'.get? b=some o)->Q Zj2 {s with heap:=h'}):
  wpAny Y5 A (call Uk [.ref l] (wt (Vt t))) Q E s:=by
 obtain⟨⟨c,dct,dt,sl⟩,hl,hc,n,hd⟩:=hL;replace hc:c=.type "list":=hc;replace hd:dt=.seq xs n:=hd;subst hc hd;have ft:=afT;obtain⟨c,tl,amV⟩:=ft.mro;have amY:=ft.made;have gj:=ft.sub;have yj:=akS Z5 (Vt t);have hct:=agY Z5 (Vt t);have hz:(BB s.heap l).objs.size =s.heap.objs.size+1:=gb ..;have he:IsEnum (BA s.heap l 1) YS s.heap.objs.size 1 .none :=by have e:=dj (BB s.heap l) (o:={cls:=Uk,data:=.fields #[.none,.bool false,.ref s.heap.objs.size,rawInt 1,.none,.none]}) rfl;rw[hz]at e;exact e
 refine CC (ad4 ?_);show YF (callAny Uk _) _ _ _;refine aL ⟨afW _ ZT,yR F.entry_type_call ?_⟩;rw[Around.under_plain (weight_type_call_type "enumerate" [.ref l] _) (units_type_call_type "enumerate" [.ref l] _)];have h1:=ft.notType;have h2:=ft.canCreate
 repeat(any_goals(first |assumption|wp_step))
 refine vK (ad5 ft.plain F.entry_enumerate_new (CB yj (akL l xs n dct sl t prog w A.in1 (wants (λobj s₁=>obj=.ref YS/\s₁={s with heap:=BA s.heap l 1}) E) s ⟨hl,?_⟩))) λr s₁ hr=>?_
 ·show Value.ref (BB s.heap l).objs.size =_/\_;rw[hz];exact Uy
 cases r with
 |error e=>exact hr
 |ok fl=>
  cases fl with
  |ret obj=>
   ext aB;have hT:Shared.TypeIs {s with heap:=BA s.heap l 1} Zj2 "enumerate":=⟨_,he,rfl⟩;have hli:=ft.init.lookup;have hbi:=ft.init.bind Zj2
   repeat(any_goals(first |assumption|wp_step))
   refine vK (ad5 ft.init.plain F.entry_object_init (ft.init.check _ _ _ _ _ _ _ _ hT (ar4 _ _ _) (amc prog w A.in1 (wants (λr s₂=>r=.none /\s₂={s with heap:=BA s.heap l 1}) E) _ ⟨hT,rfl,rfl⟩))) λr₂ s₂ Lu=>?_;cases r₂ with
   |error e=>exact Lu
   |ok fl₂=>
    cases fl₂ with
    |ret r=>
     obtain⟨rfl,rfl⟩:=Lu;have fin:=h _ he ⟨_,cV _ Zdb,rfl,rfl⟩ λb o x=>cV _ (cV _ x)
     repeat(any_goals(first |assumption|wp_step))
    |_=>exact Lu.elim
  |_=>exact hr.elim
end
end
local macro_rules | `(tactic| simp! [$xs,*]) => `(tactic| simp only [nR, tN, pf, mL, kR, ux, qX, tP, qM, tU, kS, tM, mN, kK, mM, tD, tG, wN, tC, tB, tX, tJ, tK, tW, tI, wO, tO, qI, tT, qL, qJ, qZ, qY, uu, rg, rh, jk, rI, uA, uf, tQ, mQ, uq, uv, tV, vA, uw, uz, ur, nS, pj, qH, tF, qW, tH, tL, wQ, wU, rV, rT, rW, u4, rS, uZ, tu, qN, rR, tw, rU, tE, qV, tS, tR, wV, nT, ph, qK, vC, vB, Nat.succ_eq_add_one, sG, uc, w9, w_, w8, V.str.injEq, ua, uH, lY, xO, yM, fold_succ, List.set_cons_zero, List.set_cons_succ, List.getElem?_cons_zero, List.getElem?_cons_succ, Option.some.injEq, exists_eq_left', exists_eq_left, exists_and_left, and_assoc, true_and, and_true, V.bl.injEq, HO.lst.injEq, HO.ins.injEq, HO.tup.injEq, V.ref.injEq, V.int.injEq, decide_true, decide_false, if_true, if_false, List.cons.injEq, Bool.false_eq_true, au, jh, exists_const, exists_eq', exists_eq, and_self, List.append_nil, List.nil_append, List.cons_append, List.append_assoc, L2.start, List.map_cons, List.map_nil, List.length_cons, List.length_nil, Nat.zero_add, Nat.reduceAdd, Nat.reduceSub, List.replicate_succ, List.replicate_zero, wipe, $xs,*])
section
abbrev asN:Zc:=["pairs","step","others","first","second"]
theorem Sf:aV asN za (aA Jp):=Zl
abbrev aeZ:Zc:=["plan","step","later","earlier"]
theorem RQ:aV aeZ BV (aA Dj):=Zl
abbrev as6:Zc:=["plan","later","earlier","reached","place","before","step"]
theorem SS:aV as6 GO (aA JH):=Zl
theorem aiE(ps:ZV)(p:Xr)(s:Nat):bw (ps++[p]) s=bw ps s++((if p.1=s then [p.2]else [])++(if p.2=s then [p.1]else [])):=by unfold bw;rw[oT];simp
theorem xp:∀(ps:ZV) (s:Nat),(bw ps s).length <=2*ps.length
 |[],s=>ZA
 |p::r,s=>by
  have ih:=xp r s;unfold bw at ih⊢;rw[iR,bS,bb];have:((if p.1=s then [p.2]else [])++(if p.2=s then [p.1]else [])).length <=2:=by by_cases h1:p.1=s<;>by_cases h2:p.2=s<;>simp[h1,h2]
  omega
def C3:Sp:=λvs H Q _=>∃(a:Addr) (ps:ZV) (s:Nat),vs=[.ref a,nat s]/\U3 ps/\ps.length<=12/\
 ∀(H':Hp) (l:Addr),Zd->H l=none->H' l=some (.lst (nats (bw ps s)))->ZY H'
def iT(ps:ZV)(s:Nat):Za:=(ps.filter λp=>p.1==s).map Z1
def Ir(A:Ad):Sp:=λvs H Q _=>∃(p:Addr) (i:aW) (P:Plan) (s:Nat),vs=[.ref p,nat s]/\Y4/\P.after.length<=12/\
 ∀(H':Hp) (l:Addr),Zd->H l=none->H' l=some (.lst (nats (WT s)))->ZY H'
theorem KS{ps:ZV}{x y:Nat}:y∈iT ps x↔(x,y)∈ps:=by
 unfold iT;rw[aN];ext b
 ·rintro⟨p,hp,rfl⟩;obtain⟨h1,h2⟩:=bD.mp hp;rw[←eq_of_beq h2];exact h1
 ·intro h;exact⟨(x,y),bD.mpr ⟨h,Zh⟩,rfl⟩
inductive Reach(ps:ZV):Nat->Nat->Prop
 |refl (a:Nat):Reach ps a a
 |step {a b c:Nat}:Reach ps a b->(b,c)∈ps->Reach ps a c
theorem oh:∀(n:Nat) (l:Za),l.Nodup->(∀x∈l,x<n)->l.length<=n
 |0,l,_,h=>by
  cases l with
  |nil=>exact ZA
  |cons a r=>exact absurd (h a aY) (OU _)
 |n+1,l,hn,h=>by
  by_cases hm:n∈l
  ·have h1:=atm hm;have h2:=oh n (l.erase n) (hn.erase n) λx hx=>by
    have h3:=h x (List.mem_of_mem_erase hx);have h4:x≠n:=λe=>by subst e;exact hn.not_mem_erase hx
    omega
   omega
  ·have h2:=oh n l hn λx hx=>by have h3:=h x hx;have h4:x≠n:=λe=>hm (e▸hx);omega
   omega
structure nB(ps:ZV)(j:Nat)(R:Za):Prop where
 nd:R.Nodup
 lt:∀x∈R,x<7
 reach:∀x∈R,Zgk x
 has:j∈R
theorem nB.start{ps:ZV}{j:Nat}(hj:j<7):nB ps j [j]:=
 ⟨df.mpr ⟨Zh,sV⟩,λx hx=>by rw[bo]at hx;omega,λx hx=>by rw[bo]at hx;subst hx;exact .refl _,Zh⟩
theorem nB.len{ps:ZV}{j:Nat}{R:Za}(h:nB ps j R):R.length<=7:=oh 7 R h.nd h.lt
theorem nB.more{ps:ZV}{j x y:Nat}{R:Za}(h:nB ps j R)(hx:x∈R)(hp:(x,y)∈ps)(hy:y<7)(hn:y∉R):nB ps j (R++[y]):=by
 refine⟨Eo h.nd hn,λz hz=>?_,λz hz=>?_,mz _ h.has⟩
 ·rcases b8.mp hz with q|q
  ·exact h.lt z q
  ·rw[bo]at q;omega
 ·rcases b8.mp hz with q|q
  ·exact h.reach z q
  ·rw[bo]at q;subst q;exact .step (h.reach x hx) hp
def Done(ps:ZV)(R:Za)(t:Nat):Prop:=∀(m:Nat),m<t->∀x,R[m]? =some x->∀y,(x,y)∈ps->y∈R
theorem ahV{ps:ZV}{j:Nat}{R:Za}(h:nB ps j R)(d:Done ps R R.length){y:Nat}(r:Zgk y):y∈R:=by
 induction r with
 |refl=>exact h.has
 |step _ hp ih=>
  obtain⟨m,hm,e⟩:=zj.mp ih;exact d m hm _ (by rw[fP hm,e]) _ hp
def Rj(A:Ad):Sp:=λvs H Q _=>∃(p:Addr) (i:aW) (P:Plan) (j e:Nat),vs=[.ref p,nat j,nat e]/\Y4/\P.after.length<=12/\(∀y∈P.after,y.2<7)/\j<7/\
 ∀(H':Hp) (b:Bool),Zd->(b=true↔Reach P.after j e)->Q WA H'
section
variable {P:Program}{w:World}{K:PySem.W.Frag}{mg:Zx}{base:Heap}
theorem ajy{f:Addr}{fd:FuncData}(F:Zo "partners" "partners" Jp f fd):Z3 za C3:=by
 have nd:=Sf.nd;refine F.ok Sf Zj (λaG A outer s H vs Q E hr h=>?_)
 ·obtain⟨a,ps,s,rfl,_⟩:=h;rfl
 ·obtain⟨a,ps,st,rfl,⟨rs,hl,hp⟩,hlen,k⟩:=h;refine⟨_,(ao ZdB
   (ao (dN dF rfl (ZS Yp) ZtB (ao (bg (WG ZG ZC ZP) (ak (dU (WK ZR ZaD))) bp)
   (ak (bg (bN cS (pv 4) (pv 1) (bB _)) (ak (dU (dq K dE ir iq gO (pv 2) (aa (pv 3) ai)))) bp))))
   (ak (ay (pv 2))))),?_⟩
  refine⟨ZI,λq hq=>?_⟩;have s1:Z8 (ZH q Yh):=U8;refine⟨_,rfl,a,rfl,ZwH,gH (K:=K) (a:=a) W8 (λi σ H'=>∃v w:Option V,σ=[some ZX,some ZdM,some XR,v,w]/\Zd/\H' q=some (.lst (nats Zni)))
   ⟨none,none,rfl,s1,au⟩ (λi σ H' _ ⟨_,_,_,s2,_⟩=>ag.of (s2.at hl)) ?_ ?_⟩
  ·rintro i y σ H' hi ⟨v,w,rfl,s2,cF⟩;obtain⟨r,hr,rfl⟩:=get_map hi;obtain⟨p,hpi,htr⟩:=gN hp hr;have bG:(bw (ps.take i) st).length <=2*i:=cq (xp _ _) (by rw[eY];omega);have L0:i<ps.length:=(iQ.mp hpi).1;ext c;refine⟨r,_,rfl,bM.of (s2.at htr),rfl,?_⟩;have sp:∀o,Z8 (Wy q o):=λo=>bV s2 hq;have e2:ps.take XG=ps.take i++[p]:=dA hpi;have n1:(nats Zni).length <sizeLine:=by rw[bA];omega
   have n2:∀x,(nats Zni++[x]).length <sizeLine:=λx=>by rw[bS,bA];simp;omega
   by_cases h1:p.1=st<;>by_cases h2:p.2=st<;>
    simp! [h1,h2,e2,aiE,cQ cF,cF,n1,n2,cQ au,sp,s2,lj,KG,KD]
  ·rintro σ H' ⟨v,w,rfl,s2,cF⟩;rw[aq,du hp,eg]at cF;exact⟨_,rfl,k H' q s2 hq cF⟩
theorem ai9{A:Ad}{f:Addr}{fd:FuncData}(T:Zm)(F:Zo "told_before" "told_before" Dj f fd):Z3 BV (Ir A):=by
 have nd:=RQ.nd;refine F.ok RQ Zj Zn
 ·obtain⟨p,i,P,s,rfl,_⟩:=h;rfl
 ·obtain⟨p,i,P,st,rfl,hP,hlen,k⟩:=h;ext Q;obtain⟨rs,hl,hp⟩:=hP.after;refine⟨_,(ak (ay (dW (own:=[("later",2),("earlier",3)]) rfl nd (ZS (Uc Ym cW Z2)) (show cB aeZ (aA Dj) _ _ from Yf) ZyJ (λ_ _ _ _ _=>iX (WG ZR ZC ZP)) ZyI))),?_⟩;have nn:=Zaq;have dg:Zg2 (.str "after") (some (.ref i.a)):=Zmn hP.pairs;ext c;simp! [hP.ins,T.bU,nn,n8];refine⟨_,dg,i.a,rfl,Zc0,e8 (zs:=P.after) Zj8 (by rw[aq];exact du hp) Zb (λz=>z.1==st) (λz=>nat z.2) (λj x z H' hx hz s1 R S hR hS=>?_) (λD H' hD s1 h=>ZfR (by rw[h];unfold iT nats;rw[bz];rfl))⟩;obtain⟨r,hr,rfl⟩:=UG;obtain⟨z',br,ht⟩:=gN hp hr;ext P
  refine⟨r,_,rfl,bM.of (s1.at ht),rfl,?_⟩;by_cases h1:z.1=st
  ·simp! [h1];exact hR (by simp[h1]) H' ZU
  ·simp! [h1];exact hS (by simp[h1]) H' ZU
theorem aj9{A:Ad}{f:Addr}{fd:FuncData}(T:Zm)(yB:ZuP)(F:Zo "comes_after" "comes_after" JH f fd):X8 GO (Rj A):=by
 have nd:=SS.nd;refine F.ok SS Zj Zn
 ·obtain⟨p,i,P,j,e,rfl,_⟩:=h;rfl
 ·obtain⟨p,ix,P,j,e,rfl,hP,hlen,aC,hj,k⟩:=h;ext j;refine⟨_,(ao (XW (bh Wr))
   (ao (Zcf aR)
   (ao (Ke dF (bN rE YB (XI X7) ZP) (ao (Zeh (az yB hr rfl (ZL (aa (Wk ZG YB Z2) ai))))
   (ao (dN dF rfl (ZS VZ) Zkp (ak (bg (ZgG Za2 ZG rfl) (ak (dU (WK ZG (aa Za2 ai)))) bp)))
   (ak (T_ 4 nd aR ab6)))))
   (ak (ay (eE (kj K) (pv 2) (pv 3) rfl)))))),?_⟩
  ext a;refine Zlh;have s1:Z8 (ZH q (.lst [nat j])):=U8;obtain⟨Pw,cj⟩:∃Pw:L2.St->Hp->Prop,∀σ H',Pw σ H'↔∃(R:Za) (t:Nat) (v5 v6:ZM),σ=[some Z6,some (nat j),some (nat e),some XR,some (nat t),v5,v6]/\Zd/\H' q=some Zor/\nB P.after j R/\t<=R.length/\Done P.after R t:=Zoo;refine HP Pw (fun σ _=>8-natAt σ 4) ((cj _ _).mpr ⟨[j],0,none,none,rfl,s1,au,nB.start hj,ZI,λm hm=>absurd hm (OU _)⟩) ?_ ?_
  ·intro σ H1 hw;obtain⟨R,t,v5,v6,rfl,s2,i7,hR,ht,hD⟩:=(cj _ _).mp hw;have hRl:R.length<=7:=hR.len;have am5:oW K XR H1 R.length:=.inl ⟨_,ag.of i7,(bA R).symm⟩;ext a;refine⟨R.length,am5,?_⟩;by_cases bG:t<R.length
   ·obtain⟨x,hx⟩:=fM bG;have A4:(t:Int)<(R.length:Int):=by omega
    have hxR:x∈R:=bI hx;simp! [A4];refine⟨_,ag.of i7,_,bQ (akT hx),p,ix,P,x,rfl,Zgp,hlen,λH2 l s3 cY hl=>?_⟩;have hlq:l≠q:=λe=>by subst e;rw[cY]at i7;cases i7
    obtain⟨Pv,aB⟩:∃Pv:Nat->L2.St->Hp->Prop,∀m σ H',YG H'↔∃(R':Za) (v6:ZM),σ=[some Z6,some (nat j),some (nat e),some XR,some (nat t),some Z5,v6]/\Zd/\H' l=some (.lst (nats (WT x)))/\H' q=some (.lst (nats R'))/\nB P.after j R'/\R<+:R'/\∀y∈(WT x).take m,y∈R':=Ye;refine⟨l,rfl,Zc0,gH (nats (WT x)) Pv
     ((aB _ _ _).mpr ⟨R,v6,rfl,s2.trans s3,hl,s3.at i7,hR,List.prefix_refl R,λy hy=>by simp at hy⟩) (λi σ H' _ hv=>let⟨_,_,_,_,h,_⟩:=(aB _ _ _).mp hv;ag.of h) ?_ ?_⟩
    ·intro m y σ H' hy hv;ext cz;obtain⟨z,hz,rfl⟩:=Wo;have br:z∈WT x:=Xv;have rX:(x,z)∈P.after:=KS.mp br;have am6:=bc.len;have e1:(WT x).take XH=(WT x).take m++[z]:=dA hz;have n1:(nats R').length <sizeLine:=by rw[bA];omega
     ext a;refine TU cF ?_;by_cases iI:z∈R'
     ·have hc:R'.contains z=true:=bx.mpr iI;simp! [hc,qA];refine(Zi _).mpr ⟨R',some (nat z),rfl,s4,ve,cF,bc,jx,λy hy=>?_⟩;rw[e1]at hy;rcases b8.mp hy with h|h
      ·exact dB y h
      ·rw[bo]at h;subst h;exact iI
     ·have hc:R'.contains z=false:=by
       cases e:R'.contains z with
       |false=>rfl
       |true=>exact Zox iI
      simp! [hc,wD,cQ cF,cF,n1];refine(Zi _).mpr ⟨R'++[z],some (nat z),rfl,bV s4 hq,by rw[ax hlq];exact ve,by rw[au,KC],bc.more (jx.subset hxR) rX (aC _ rX) iI,jx.trans (List.prefix_append _ _),λy hy=>?_⟩;rw[e1]at hy;rcases b8.mp hy with h|h
      ·exact mz _ (dB y h)
      ·exact je _ h
    ·ext R;ext cz;have anI:∀y∈WT x,y∈R':=λy hy=>dB y (by rw[bA,eg];exact hy);have am6:=bc.len;have hle:R.length<=R'.length:=jx.length_le;have A3:8-natAt [some Z6,some (nat j),some (nat e),some XR,some (nat (t+1)),some Z5,v6] 4<8-natAt [some Z6,some (nat j),some (nat e),some XR,some (nat t),v5,v6] 4:=by show 8-(t+1)<8-t;omega
     ext a;refine⟨(cj _ _).mpr ⟨R',t+1,some Z5,v6,rfl,s4,cF,bc,Zb,λm hm x' ju y hy=>?_⟩,A3⟩;by_cases hmt:m<t
     ·refine jx.subset (hD m hmt x' ?_ y hy);obtain⟨r,er⟩:=jx;rw[←er,afC Zb]at ju;exact ju
     ·have emt:m=t:=by omega
      subst emt;obtain⟨r,er⟩:=jx;rw[←er,afC Zb,hx]at ju;cases ju
      exact anI y (KS.mpr hy)
   ·have A4:¬(t:Int)<(R.length:Int):=by omega
    simp! [A4];have et:t=R.length:=by omega
    refine nZ i7 ?_;refine k H1 _ s2 ⟨λh=>hR.reach _ (bx.mp h),λh=>bx.mpr (ahV hR (et▸hD) h)⟩
  ·ext bO
end
end
section
open Vbwbal (signer load goesWith fits unsigned)
abbrev aeY:Zc:=["record","step","signer"]
theorem RO:aV aeY nE (aA Di):=Zl
abbrev ae4:Zc:=["record","person","absent"]
theorem Sa:aV ae4 y_ (aA Dq):=Zl
abbrev asG:Zc:=["record","person"]
theorem R4:aV asG y9 (aA Ji):=Zl
abbrev ae7:Zc:=["record","person","step","wanted","role"]
theorem Ss:aV ae7 BZ (aA Dt):=Zl
abbrev OY:Zc:=["record","word","step","signers","other","signer"]
theorem Sg:aV OY Gx (aA zU):=Zl
abbrev afb:Zc:=["record","person","step","signer"]
theorem SI:aV afb B4 (aA Dy):=Zl
def kX(P:Plan)(ab:Za):Za:=(List.range P.persons.length).filter λx=>!(ab.contains x)
def pq(A:Ad):Sp:=λvs H Q _=>∃(r:Addr) (i:bC) (j:aW) (P:Plan) (ab:Za) (c:Choice),vs=[.ref r]/\YI/\ZF/\
 ∀(H':Hp) (l:Addr),Zd->H l=none->H' l=some (.lst (nats Z7))->ZY H'
def C2(A:Ad):Sp:=λvs H Q _=>∃(r:Addr) (i:bC) (j:aW) (P:Plan) (ab:Za) (c:Choice),vs=[.ref r]/\YI/\ZF/\
 ∀(H':Hp) (l:Addr),Zd->H l=none->H' l=some (.lst (nats ZkL))->ZY H'
def C1(A:Ad):Sp:=λvs H Q _=>∃(r:Addr) (i:bC) (j:aW) (P:Plan) (ab:Za) (c:Choice) (x:Nat),vs=[.ref r,nat x]/\YI/\Xj/\x<P.persons.length/\
 Q (.int ((cy P x:Int)-(load c x:Int))) H
def Iy(A:Ad):Sp:=λvs H Q _=>∃(r:Addr) (i:bC) (j:aW) (P:Plan) (ab:Za) (c:Choice) (x s:Nat),vs=[.ref r,nat x,nat s]/\YI/\ZF/\x<P.persons.length/\s<P.steps.length/\
 ∀(H':Hp),Zd->Q (.bl (YD x)) H'
def QZ(A:Ad):Sp:=λvs H Q _=>∃(r:Addr) (i:bC) (j:aW) (P:Plan) (ab:Za) (c:Choice) (word:Str) (a:Addr) (ps:ZV) (s:Nat),vs=[.ref r,.str word,nat s]/\YI/\
 bZ H j.d (.str word) Zgr/\U3 ps/\ps.length<=12/\(∀y∈ps,y.1<P.steps.length/\y.2<P.steps.length)/\
 ∀(H':Hp) (l:Addr),Zd->H l=none->H' l=some (.lst (nats (ki ps c s)))->ZY H'
def IC(A:Ad):Sp:=λvs H Q _=>∃(r:Addr) (i:bC) (j:aW) (P:Plan) (ab:Za) (c:Choice) (x s:Nat),vs=[.ref r,nat x,nat s]/\YI/\ZF/\Xj/\x<P.persons.length/\
 ∀(H':Hp),Zd->Q (.bl (YO x)) H'
theorem EK(o:Option Nat):decide (lV o=.ba)=o.isNone:=by
 cases o with
 |none=>rfl
 |some x=>rfl
theorem uo{n i:Nat}{z:Nat}(h:(List.range n)[i]? =some z):z=i/\i<n:=by obtain⟨hi,e⟩:=iQ.mp h;rw[List.getElem_range]at e;rw[eM]at hi;exact⟨e.symm,hi⟩
theorem J6{n i:Nat}{f:Nat->V}{x:V}(h:((List.range n).map f)[i]? =some x):x=f i/\i<n:=by obtain⟨z,hz,rfl⟩:=get_map h;obtain⟨e,hi⟩:=uo hz;rw[e];exact⟨rfl,hi⟩
theorem IK{P:Plan}{c:Choice}{s:Nat}(h:s<P.steps.length):(ic P c)[s]? =some ZpT:=by unfold ic;rw[cx,zm h];rfl
theorem aeA{P:Plan}{ab:Za}{x:Nat}(h:Ziv):(kO P ab)[x]? =some (.bl Zi7):=by unfold kO;rw[cx,zm h];rfl
theorem Ry(P:Plan)(c:Choice):(ic P c).length =P.steps.length:=by unfold ic;rw[aq,eM]
theorem Om(P:Plan)(ab:Za):(kO P ab).length =P.persons.length:=by unfold kO;rw[aq,eM]
theorem ahu(P:Plan)(c:Choice):(ic P c).all il=true:=by unfold ic;rw[mC];refine dh.mpr λs _=>?_;show il ZpT=true;cases signer c s<;>rfl
theorem ahv{P:Plan}{c:Choice}(x:Nat)(hc:Xj):((ic P c).countP λz=>jI z XZ)=Yx x:=by
 unfold ic;rw[List.countP_map,←abd c x P.steps.length hc.nd hc.steps];congr 1;funext s;show jI ZpT XZ=(ZW s==some x);cases signer c s with
 |none=>rfl
 |some y=>
  show((y:Int)==(x:Int))=(some y==some x);by_cases h:y=x
  ·subst h;simp
  ·have h1:((y:Int)==(x:Int))=false:=Zxo;rw[h1];simp[h]
theorem ak0{P:Plan}{x:Nat}(h:Ziv):(P.persons.map λy=>nat y.most)[x]? =some (nat (YE x)):=by unfold cy;rw[cx,fP h];rfl
section
variable {P:Program}{w:World}{K:PySem.W.Frag}{mg:Zx}{base:Heap}{A:Ad}
theorem ai7{f:Addr}{fd:FuncData}(T:Zm)(F:Zo "unsigned_steps" "unsigned_steps" Di f fd):Z3 nE (pq A):=by
 have nd:=RO.nd;refine F.ok RO Zj Zn
 ·ext L
 ·ext a6;have aT:=wf.steps;refine⟨_,(ak (ay (dW (own:=[("step",1),("signer",2)]) rfl nd Zij (show cB aeY (aA Di) _ _ from Yf) Zk9 (λ_ _ _ _ _=>iX (bN Ks ZR uD ZP)) Zir))),?_⟩;have nn:=ZcO;simp! [hR.ins,T.dD,nn,xj];refine⟨_,ZjM,Ey (zs:=List.range P.steps.length) ZjM (by rw[Ry,eM]) (by rw[eM];omega) (λs=>(ZW s).isNone) nat Zlq ZeD⟩;ext a1;ext r;simp! [EK];cases e:(ZW z).isNone with
  |true=>exact Znt
  |false=>exact Zns
theorem ajt{f:Addr}{fd:FuncData}(T:Zm)(F:Zo "present_persons" "present_persons" Dq f fd):Z3 y_ (C2 A):=by
 have nd:=Sa.nd;refine F.ok Sa Zj Zn
 ·ext L
 ·ext a6;have aT:=wf.persons;refine⟨_,(ak (ay (dW (own:=[("person",1),("absent",2)]) rfl nd Zij (show cB ae4 (aA Dq) _ _ from Yf) Zk9 (λ_ _ _ _ _=>iX (eR Zpj)) Zir))),?_⟩;have nn:=ZcR;simp! [hR.ins,T.dD,nn,Ab];refine⟨_,ZiU,Zq9 (λx=>!(ab.contains x)) nat Zlq ZeD⟩;ext a1;ext r;simp! [yY];cases e:(!(ab.contains z))with
  |true=>exact Znt
  |false=>exact Zns
theorem ajl{f:Addr}{fd:FuncData}(T:Zm)(F:Zo "room_of" "room_of" Ji f fd):Z3 y9 (C1 A):=by
 have nd:=R4.nd;refine F.ok R4 Zj Zn
 ·obtain⟨r,i,j,P,ab,c,x,rfl,_⟩:=h;rfl
 ·obtain⟨r,i,j,P,ab,c,x,rfl,hR,wc,hx,k⟩:=h;refine⟨_,(ak (ay (cR rD (Wk ZcT ZC Z2) (dq K dE ash PySem.F.type_list_count (akZ K) Ym Wr)))),?_⟩;ext v;have n2:=ZcO;have n3:=ZiN;simp! [hR.ins,T.dD,n1,n2,lQ,xj,hR.plan.ins,T.bU,n3,Af,TZ];refine⟨_,ag.of hR.plan.eF,_,bQ (ak0 hx),cQ hR.ib,_,ZjM,rfl,ahu _ _,?_⟩;rw[ahv x wc];exact⟨_,rfl,k⟩
theorem ajL{f:Addr}{fd:FuncData}(T:Zm)(F:Zo "may_do" "may_do" Dt f fd):Z3 BZ (Iy A):=by
 have nd:=Ss.nd;refine F.ok Ss Zj Zn
 ·ext dl
 ·obtain⟨r,i,j,P,ab,c,x,st,rfl,hR,wf,hx,hs,k⟩:=h;refine⟨_,(ao (bg (Z4 Zpk Z0) Uw bp)
   (ao (XW (Wk ZcT ZR Z2))
   (ak (ay (bW (BF K rfl) (by rfl) T.xD BM (aa (dW (own:=[("role",4)]) rfl nd (cf K (bj (bF K) (aD K (aD K (pv 0) rfl) rfl) (pv 1) (λ_ _=>rfl))) (show cB ae7 (aA Dt) _ _ from cP (by decide+kernel)) (λ_ _ _ _ _=>(aZ 4 nd)) (λ_ _ _ _ _=>fU) (λ_ _ _ _ _=>(eE (kj K) (pv 4) (pv 3) rfl))) ai)))))),?_⟩
  ext v;have n2:=ZcR;have n3:=Zia;have n4:=ZhY;obtain⟨t,ht⟩:=fM hs;obtain⟨y,hy⟩:=fM hx;obtain⟨rs,h1,h2⟩:=hR.plan.sr;obtain⟨rp,h3,h4⟩:=hR.plan.pr;obtain⟨a1,e1,j6⟩:=Al h2 (i:=st) (b:=t.roles) (by rw[cx,ht];rfl);obtain⟨a2,e2,jF⟩:=Al h4 (i:=x) (b:=y.roles) (by rw[cx,hy];rfl);have g1:(rs.map V.ref)[st]? =some (.ref a1):=by rw[cx,e1];rfl
  have g2:(rp.map V.ref)[x]? =some (.ref a2):=by rw[cx,e2];rfl
  have ef:Zcl x=(!(ab.contains x)&&y.roles.any λr=>t.roles.contains r):=by unfold fits;rw[ht,hy]
  have hl:=wf.mT y (bI hy);simp! [hR.ins,T.dD,n1,n2,lQ,Ab,hR.plan.ins,T.bU,n3,n4,DX,DY];refine⟨_,ZiU,_,bQ (aeA hx),_,rfl,?_⟩;cases e:ab.contains x with
  |true=>
   refine aI (?_ :Q ZaE H);have:=k H ZfX;rw[ef,e]at this;ext d
  |false=>
   ext g;refine⟨_,ag.of h1,_,bQ g1,_,ag.of h3,_,bQ g2,a2,rfl,⟨_,Zkw⟩,e8 (zs:=y.roles) Zkw XF Zb Y9 (λz=>.bl ZyG) Zbb W9⟩
   ·ext o
    ext a;exact nZ (s1.at j6) Zc5
   ·refine⟨_,rfl,y.roles.map λz=>ZyG,Zhu,?_⟩;have:=Wx;rw[ef,e]at this;rw[wq];ext d
theorem ajz{f:Addr}{fd:FuncData}(T:Zm)(qa:ZmW)(F:Zo "partner_signers" "partner_signers" zU f fd):X8 Gx (QZ A):=by
 have nd:=Sg.nd;refine F.ok Sg Zj Zn
 ·obtain⟨r,i,j,P,ab,c,word,a,ps,s,rfl,_⟩:=h;rfl
 ·obtain⟨r,i,j,P,ab,c,word,a,ps,st,rfl,hR,hd,nh,hlen,aC,k⟩:=h;ext Q;refine⟨_,(ao (pC 3 (own:=[("other",4)]) rfl nd (ZS (az qa hr rfl (aa (Uc ZcT ZC Z2) Xm))) (show cB OY (aA zU) _ _ from Yf) ZcD Xc (λ_ _ _ _ _=>(ZaU YB Z2)))
   (ak (ay (dW (own:=[("signer",5)]) rfl nd (cf K (pv 3)) (show cB OY (aA zU) _ _ from cP (by decide+kernel)) (λ_ _ _ _ _=>(aZ 5 nd)) (λ_ _ _ _ _=>iX (bN aaI (pv 5) uD (bB _))) (λ_ _ _ _ _=>(pv 5)))))),?_⟩
  ext v;have n2:=ZcO;have n3:=Zaq;have bH:=xp ps st;simp! [hR.ins,T.dD,n1,lQ,hR.plan.ins,T.bU,n3,n8];refine⟨_,hd,a,ps,st,rfl,nh,hlen,λH1 l s1 cY hl=>?_⟩;have fK:=XA;refine⟨l,rfl,Zc0,e8 (zs:=bw ps st) Zj8 XF Zb Y9 (λz=>lV (ZW z)) Ztj (λD H' hD s2 h=>?_)⟩
  ·ext o
   have j7:=fK.same s2;have cE:z<P.steps.length:=by
    rcases gC.mp Xv with q|q
    ·exact(aC _ q).2
    ·exact(aC _ q).1
   simp! [j7.ins,T.dD,n2,xj];exact⟨_,ag.of j7.ib,_,bQ (IK cE),bc rfl _ ZU⟩
  ·have hD':H' D=some (.lst ((bw ps st).map λz=>lV (ZW z))):=by rw[h,filter_all]
   ext a;refine⟨⟨_,ag.of hD'⟩,e8 (zs:=(bw ps st).map λz=>ZW z) (ag.of hD') Zh (by rw[aq];omega) (λo=>o.isSome) lV (λm v z nI hv hz s3 R S bc hS=>?_) (λD2 nI yx s3 h2=>?_)⟩
   ·obtain⟨y,hy,rfl⟩:=Zbx;obtain⟨y',jX,rfl⟩:=get_map hz;rw[hy]at jX;cases jX
    simp! [EK];cases e:ZW y with
    |none=>
     rw[e]at hS;exact aF (hS rfl _ ZU)
    |some q=>
     rw[e]at bc;exact aI Zc5
   ·refine k nI D2 Zhs ((s1.trans s2).free yx) ?_;rw[h2];congr 2;unfold ki nats;generalize bw ps st=L
    induction L with
    |nil=>rfl
    |cons b r ih=>
     rw[cw,jf,He];cases e:ZW b with
     |none=>exact ih
     |some q=>
      show(lV (some q)::_)=(nat q::_);exact cb (nat q:: ·) ih
theorem aev(x:Nat)(l:Za):((l.map λy=>!decide (y=x)).any id=false)↔∀y∈l,y=x:=by rw[wq,afO];exact⟨λh y hy=>ZxY,λh y hy=>ZxY⟩
theorem ajZ{f:Addr}{fd:FuncData}(T:Zm)(FA:Zw "partner_signers" Gx 2 (QZ A))(p9:Zml)(F:Zo "goes_with" "goes_with" Dy f fd):VO B4 (IC A):=by
 have nd:=SI.nd;refine F.ok SI Zj Zn
 ·ext dl
 ·obtain⟨r,i,j,P,ab,c,x,st,rfl,hR,wf,wc,hx,k⟩:=h;ext Q;refine⟨_,(ao (bg (bN U1 ZC ZtK rfl) Uw bp)
   (ao (bg (Z4 (Zhz (aa (dW (own:=[("signer",3)]) rfl nd (ZS ZtK) (show cB afb (aA Dy) _ _ from Yf) Zis Xc (λ_ _ _ _ _=>(eE xx ZG ZC ZP))) ai)) Z0) Uw bp)
   (ak (ay (eE pG (az p9 hr rfl (aa (pv 0) (aa (pv 1) ai))) aR (bB _)))))),?_⟩
  have no:Zb6 x=false->∀H',Zd->Q ZaE H':=λe H' s=>by have:=k H' s;rw[e]at this;exact this
  have eq:=nv P c st x;ext a;refine⟨r,i,j,P,ab,c,_,j.u,P.unlike,st,rfl,hR,ZeP hR.plan.pairs,hR.plan.unlike,wf.unlike,λy hy=>XE (.inr Zgu),λH1 l s1 cY hl=>?_⟩;have au3:(Zdl st).length <=24:=by have h1:=xp P.alike st;have h2:=wf.alike;have h3:(Zdl st).length <=(Xx st).length :=O9 _ _;omega
  refine nZ hl ?_;cases e1:(ki P.unlike c st).contains x with
  |true=>
   ext a;refine no ?_ H1 s1;cases e:Zb6 x with
   |false=>rfl
   |true=>exact absurd (bx.mp e1) (eq.mp e).1
  |false=>
   ext a;have fK:=XA;refine⟨r,i,j,P,ab,c,_,j.l,P.alike,st,rfl,fK,ZeR fK.plan.pairs,fK.plan.alike,wf.alike,λy hy=>XE ZiH,λH2 l2 s2 LU bH=>?_⟩;refine⟨l2,rfl,⟨_,Zku⟩,e8 (zs:=Zdl st) Zku XF Zb Y9 (λz=>.bl (!decide (z=x))) Ztk (λD H' hD s3 h=>?_)⟩
   ·ext o
    ext a;exact bc rfl _ ZU
   ·refine⟨_,rfl,(Zdl st).map λz=>!decide (z=x),Zhu,_,rfl,?_⟩;ext V;cases e2:((Zdl st).map λz=>!decide (z=x)).any id with
    |true=>
     ext a;refine no ?_ H' cG;cases e:Zb6 x with
     |false=>rfl
     |true=>
      have:=(aev x _).mpr (eq.mp e).2.1;rw[this]at e2;cases e2
    |false=>
     ext a;have oG:=hR.same cG;refine⟨r,i,j,P,ab,c,x,rfl,oG,wc,hx,?_⟩;have:=k H' cG;have e3:Zb6 x=decide (0<(cy P x:Int)-(load c x:Int)):=by
      rw[iS,eq,bX];ext b
      ·rintro⟨_,_,h⟩;have:Yx x<YE x:=h;omega
      ·intro h;refine⟨λhm=>?_,(aev x _).mp e2,?_⟩
       ·rw[bx.mpr hm]at e1;cases e1
       ·show Yx x<YE x;omega
     rw[e3]at this;exact⟨_,rfl,this⟩
end
end
section
open Vbwbal (signer load goesWith fits unsigned)
abbrev O0:Zc:=["record","options","step","able","person"]
theorem Sk:aV O0 qp (aA zW):=Zl
abbrev as3:Zc:=["options","step","person","narrower"]
theorem SJ:aV as3 B5 (aA JE):=Zl
abbrev asP:Zc:=["options","steps","fewer","step"]
theorem Sl:aV asP GA (aA Jr):=Zl
abbrev aeX:Zc:=["options","persons","narrower","step","person"]
theorem RJ:aV aeX Gg (aA Dh):=Zl
def jc(H:Hp)(kv:Key×V)(p:Zay):Prop:=kv.1=Sum.inl (p.1:Int)/\∃r,kv.2=.ref r/\H r=some (.lst (nats p.2))
def fO(H:Hp)(d:Addr)(o:cz):Prop:=∃kvs,H d=some YA/\Zan o
theorem jc.same{H H':Hp}(s:Zd){kv:Key×V}{p:Zay}(h:jc H kv p):jc H' kv p:=by obtain⟨h1,r,h2,h3⟩:=h;exact⟨h1,r,h2,s.at h3⟩
theorem fO.same{H H':Hp}(s:Zd){d:Addr}{o:cz}(h:Za0):Ub d o:=by obtain⟨kvs,h1,h2⟩:=h;exact⟨kvs,UY,gA (λ_ _ q=>q.same s) h2⟩
theorem Kq{H:Hp}{s:Nat}:∀{kvs:Yb} {o:cz},Zan o->s∉keys o->W4 Zh2=none
 |_,_,.nil,_=>rfl
 |_,_,.cons h t,hn=>by
  ext aM;have h1:¬kv.1=Sum.inl (s:Int):=λe=>by rw[h.1]at e;exact hn (by have:p.1=s:=mF (oQ e);unfold keys;rw[cw,this];exact aY)
  rw[tp h1];exact Kq t λm=>hn (ZE m)
theorem rC{H:Hp}{s:Nat}{l:Za}:∀{kvs:Yb} {o:cz},Zan o->(keys o).Nodup ->(s,l)∈o->∃r,W4 Zh2=some Yl/\H r=some Zfi
 |_,_,.nil,_,hm=>by cases hm
 |_,_,.cons h t,hn,hm=>by
  ext aM;obtain⟨h1,h2⟩:=df.mp (show(p.1::keys l2).Nodup from hn);rcases aJ.mp hm with e|e
  ·subst e;obtain⟨e1,r,e2,e3⟩:=h;exact⟨r,by rw[zE e1,e2],e3⟩
  ·have h3:¬kv.1=Sum.inl (s:Int):=λq=>by rw[h.1]at q;have e4:p.1=s:=Zj5;exact h1 (by rw[e4];exact aN.mpr Zdd)
   rw[tp h3];exact rC t h2 e
theorem Kp{H:Hp}{s:Nat}{l:Za}{r:Addr}{kvs:Yb}{o:cz}(h:Zan o)(hn:s∉keys o)(hr:H r=some Zfi):Zvo (o++[(s,l)]):=by rw[ah3 _ (Kq h hn)];exact qo h ⟨rfl,r,rfl,hr⟩
theorem xu{H:Hp}{kvs:Yb}{o:cz}(h:Zan o):kvs.length=o.length:=du h
theorem atW(a b:cz):keys Zek=keys a++keys b:=cA
theorem zI{α:Type}{l:ZN}{i:Nat}{x:α}(hn:l.Nodup)(h:ZpU):x∉l.take i:=by intro hm;obtain⟨j,hj,e⟩:=zj.mp hm;rw[eY]at hj;rw[List.getElem_take]at e;obtain⟨hi,e2⟩:=iQ.mp h;have:=(afx (i:=j) (j:=i) (h₀:=by omega) (h₁:=hi) hn).mp (e.trans e2.symm);omega
theorem asa(P:Plan)(ab:Za)(c:Choice)(s:Nat):((kX P ab).filter λx=>YD x).filter (λx=>YO x)=ZJ s:=by
 unfold kX bR;rw[qv,qv];refine nH λx _=>?_;cases h1:YD x with
 |false=>simp
 |true=>
  rw[Nr h1];simp
theorem aby(P:Plan)(ab:Za)(c:Choice)(s:Nat):(ZJ s).length <=P.persons.length:=by unfold bR;exact Zbc
theorem xN(P:Plan)(ab:Za)(c:Choice):keys XM=Z9 c:=by unfold keys c_;rw[bz];exact ZgQ
theorem Eb{o:cz}{s:Nat}(h:s∈keys o):(s,Y1 s)∈o:=by
 unfold fE;cases e:o.find? λp=>p.1==s with
 |none=>
  obtain⟨p,hp,e2⟩:=UN;have:=Hd.mp e p hp;simp[e2]at this
 |some p=>
  have h1:=G8 e;have h2:p.1=s:=by simpa using afG e
  show(s,p.2)∈o;rw[←h2];exact h1
theorem aiJ{H:Hp}{s:Nat}{l:Za}{r:Addr}{kvs:Yb}{o:cz}(h:Zan o)(hm:s∈keys o)(hr:H r=some Zfi):Zvo (o.map λp=>if p.1=s then(s,l)else p):=by
 have ha:(kvs.any λkv=>decide (kv.1=Sum.inl (s:Int)))=true:=by obtain⟨p,hp,e⟩:=aN.mp hm;obtain⟨i,hi,e2⟩:=zj.mp hp;obtain⟨kv,h1,h2⟩:=Al h (i:=i) (b:=p) (by rw[fP hi,e2]);refine afN.mpr ⟨kv,bI h1,bu ?_⟩;rw[h2.1,e]
 unfold putK;rw[af ha];clear ha hm
 induction h with
 |nil=>exact .nil
 |cons h t ih=>
  ext aM;refine ZgU ih;show jc H (if kv.1=Sum.inl (s:Int)then(kv.1,ZkE)else kv) (if p.1=s then(s,l)else p);by_cases e:p.1=s
  ·rw[af (show kv.1=Sum.inl (s:Int) by rw[h.1,e]),af e];exact⟨by rw[h.1,e],r,rfl,hr⟩
  ·rw[ae (show¬kv.1=Sum.inl (s:Int) by rw[h.1];exact λq=>e Zj5),ae e];exact h
theorem alm{H H':Hp}{d:Addr}{kvs:Yb}{od:Obj}(h:H d=some YA)(s:ah (ZH d Zde) H'):Z8 (Wy d YA):=
 SameBut.unlock ((IS h).same s) h (s.at au)
theorem Kr{H H':Hp}{d:Addr}{u:HO}(h:Zgi)(hu:∀xs,u≠.lst xs)(s:∀b o,b≠d->NT o->H b=some o->H' b=some o){kv:Key×V}{p:Zay}(q:jc H kv p):jc H' kv p:=by obtain⟨q1,r,q2,q3⟩:=q;exact⟨q1,r,q2,s r _ (ie q3 h λe=>hu _ e.symm) trivial q3⟩
def ID:Sp:=λvs H Q _=>∃(d:Addr) (o:cz) (s x:Nat),vs=[.ref d,nat s,nat x]/\Za0/\s∈keys o/\o.length<=7/\
 ∀(H':Hp) (d':Addr),Zd->H d'=none->Ub d' (kJ o s x)->ZjV H'
def Q4:Sp:=λvs H Q _=>∃(d l:Addr) (o:cz) (ss:Za),vs=[.ref d,.ref l]/\Za0/\(keys o).Nodup /\H l=some Zao/\ss.Nodup/\(∀s∈ss,s∈keys o)/\ss.length<=7/\
 ∀(H':Hp) (d':Addr),Zd->H d'=none->Ub d' (km o ss)->ZjV H'
def QI:Sp:=λvs H Q _=>∃(d l:Addr) (o:cz) (xs:Za),vs=[.ref d,.ref l]/\Za0/\(keys o).Nodup /\o.length<=7/\(∀p∈o,p.2.length<=7)/\H l=some ZiI/\
 ∀(H':Hp) (d':Addr),Zd->H d'=none->Ub d' (jQ o xs)->ZjV H'
def t_(A:Ad):Sp:=λvs H Q _=>∃(r:Addr) (i:bC) (j:aW) (P:Plan) (ab:Za) (c:Choice),vs=[.ref r]/\YI/\ZF/\Xj/\
 ∀(H':Hp) (d:Addr),Zd->H d=none->Ub d XM->Q We H'
section
variable {P:Program}{w:World}{K:PySem.W.Frag}{mg:Zx}{base:Heap}{A:Ad}
theorem ajE{f:Addr}{fd:FuncData}(T:Zm)(fA:Zac)(p_:ZlH)
  (yF:Zws) (yI:Zvr) (F:Zo "open_options" "open_options" zW f fd):Y2 4 f fd qp (t_ A):=by
 have nd:=Sk.nd;refine F.ok Sk Zj Zn
 ·ext L
 ·ext a4;ext j;ext aL;have vc:=wf.steps;refine⟨_,(ao (UQ D1)
   (ao (dN dF rfl (ZS Zbd) VQ (ao (pC 3 (own:=[("person",4)]) rfl nd (ZS Zmv) (show cB O0 (aA zW) _ _ from Yf) ZcD (λ_ _ _ _ _=>iX (Z4 (az yF hr rfl (ZL (Zco Xm))) Z0)) ZnC)
   (ak (Ae hu (pv 1) (pv 2) (dW (own:=[("person",4)]) rfl nd (cf K (pv 3)) (show cB O0 (aA zW) _ _ from cP (by decide+kernel)) (λ_ _ _ _ _=>(aZ 4 nd)) (λ_ _ _ _ _=>iX (ck K (az yI hr rfl (aa (pv 0) (aa (pv 4) (aa (pv 2) ai)))) (λ_=>rfl))) (λ_ _ _ _ _=>(pv 4))) rfl))))
   (ak (ay (pv 1))))),?_⟩
  ext a;intro d hd;have s1:Z8 (ZH d ZaR):=a0 hd;refine⟨r,i,j,P,ab,c,rfl,XA,wf,λH1 l s2 cY hl=>?_⟩;obtain⟨Pv,aB⟩:∃Pv:Nat->L2.St->Hp->Prop,∀m σ H',YG H'↔∃(v2 v3 v4:ZM),σ=[some Yl,some We,v2,v3,v4]/\Zd/\H' l=some (.lst (nats Z7))/\Ub d ZnZ:=Ye;refine⟨l,rfl,Zc0,gH (nats Z7) Pv ((Zi _).mpr ⟨none,none,none,rfl,XJ,hl,[],s2.at au,.nil⟩) (λi σ H' _ hv=>let⟨_,_,_,_,_,h,_⟩:=(Zi _).mp hv;ag.of h) ?_ ?_⟩
  ·ext O;obtain⟨v2,v3,v4,rfl,s3,bH,kvs,hd2,eU⟩:=(Zi _).mp hv;ext M;have xT:=xF.mp (bI aT);have j7:=hR.same s3;ext a;refine⟨r,i,j,P,ab,c,rfl,j7,wf,λH3 l3 s4 yc b0=>?_⟩;have cC:(kX P ab).length <=P.persons.length:=Zbc;refine⟨l3,rfl,⟨_,ag.of b0⟩,e8 (zs:=ZkL) (ag.of b0) XF Zb (λx=>Zcl x) nat (λn v z H' hv hz s5 R S bc hS=>?_) (λD4 H4 vw s5 h4=>?_)⟩
   ·ext o
    have rX:z<P.persons.length:=dS.mp (bD.mp Xv).1;ext a;refine⟨r,i,j,P,ab,c,z,st,rfl,(j7.same s4).same s5,wf,rX,xT.1,λH6 s6=>?_⟩;refine Yu;cases e:Zcl z with
    |true=>exact aI (bc e _ s6)
    |false=>exact aF (hS e _ s6)
   ·ext a;have Fw:H4 D4=some (.lst (nats ((kX P ab).filter λx=>Zcl x))):=h4;have au1:=eZ (λx=>Zcl x) ZkL;refine⟨⟨_,ag.of Fw⟩,e8 (zs:=(kX P ab).filter λx=>Zcl x) (ag.of Fw) XF Zb (λx=>Zb6 x) nat (λn v z H' hv hz s6 R S bc hS=>?_) (λD5 H5 hD5 s6 h5=>?_)⟩
    ·ext o
     have rX:z<P.persons.length:=dS.mp (bD.mp (bD.mp Xv).1).1;ext a;refine⟨r,i,j,P,ab,c,z,st,rfl,((j7.same s4).same s5).same s6,wf,wc,rX,λH6 s7=>?_⟩;refine Yu;cases e:Zb6 z with
     |true=>exact aI (bc e _ s7)
     |false=>exact aF (hS e _ s7)
    ·have DR:=(s4.trans s5).trans s6;have Mc:=DR.at hd2;have h5':H5 D5=some (.lst (nats (ZJ st))):=by rw[h5,asa];rfl
     have e1:(UW c)[m]? =some (st,ZJ st):=by unfold c_;rw[cx,aT];rfl
     have A9:st∉keys ZnZ:=by
      have:keys ZnZ=(Z9 c).take m:=by rw[←xN P ab c];unfold keys;rw[zk]
      rw[this];exact zI Vr aT
     have Fe:=xu eU;have kG:((UW c).take m).length <=7:=by have h1:=Eu P c;have h2:(UW c).length =(Z9 c).length :=X3;rw[eY];omega
     refine⟨_,ZpZ Mc Zb,(Zi _).mpr ⟨_,_,_,rfl,bV (s3.trans DR) hd (Ej Mc),?_,_,au,?_⟩⟩
     ·rw[ax (ie bH hd2 (by intro z;cases z))];exact DR.at bH
     ·rw[dA e1];refine Kp (gA (λkv p q=>?_) eU) A9 ?_
      ·obtain⟨q1,r',q2,q3⟩:=q;refine⟨q1,r',q2,?_⟩;rw[ax (ie q3 hd2 (by intro z;cases z))];exact DR.at q3
      ·rw[ax (ie h5' Mc (by intro z;cases z))];exact h5'
  ·ext R;obtain⟨v2,v3,v4,rfl,s3,bH,hO⟩:=(Zi _).mp hv;ext a;refine k H' d s3 hd ?_;have:(UW c).take (nats Z7).length =UW c:=by rw[bA];exact we (by unfold c_;rw[aq];exact ZA)
   rw[this]at hO;exact hO
theorem aj0{f:Addr}{fd:FuncData}(T:Zm)(F:Zo "given" "given" JE f fd):Z3 B5 ID:=by
 have nd:=SJ.nd;refine F.ok SJ Zj Zn
 ·obtain⟨d,o,s,x,rfl,_⟩:=h;rfl
 ·obtain⟨d,o,st,x,rfl,⟨kvs,hd,eU⟩,hm,hlen,k⟩:=h;ext j;have hl:=xu eU;refine⟨_,(ao (XW (xo arq Vo T.aa4 arP (ZL ai)))
   (ao (Ae hu ZG ZC (bh Xm) rfl)
   (ak (ay (pv 3))))),?_⟩
  ext a;refine⟨kvs,hd,λn hn=>Zlh⟩;have vd:n≠q:=cg au hq;have xY:H q=none:=(a0 hn).free hq;have fH:upd (ZH n YA) q (.lst [nat x]) n=some YA:=by rw[ax vd,au]
  refine⟨_,ZpZ fH Zb,?_⟩;refine k _ n (bV (bV (a0 hn) xY) hn) hn ⟨_,au,?_⟩;refine aiJ (l:=[x]) (gA (λkv p q'=>?_) eU) hm ?_
  ·obtain⟨q1,r,q2,q3⟩:=q';refine⟨q1,r,q2,?_⟩;rw[ax (cg q3 hn),ax (cg q3 xY),ax (cg q3 hn)];exact q3
  ·rw[ax (λe=>vd e.symm),au];rfl
theorem ajF{f:Addr}{fd:FuncData}(T:Zm)(F:Zo "only_steps" "only_steps" Jr f fd):Z3 GA Q4:=by
 have nd:=Sl.nd;refine F.ok Sl Zj Zn
 ·obtain⟨d,l,o,ss,rfl,_⟩:=h;rfl
 ·obtain⟨d,l,o,ss,rfl,⟨kvs,hd,eU⟩,gn,hl,AV,jv,hlen,k⟩:=h;ext j;refine⟨_,(ao (WN D1)
   (ao (dN dF rfl (ZS ZC) VJ (ak (Ae hu ZR ZG Znk rfl)))
   (ak (ay (pv 2))))),?_⟩
  ext a;intro n hn;have s1:Z8 ZcU:=a0 hn;obtain⟨Pv,aB⟩:∃Pv:Nat->L2.St->Hp->Prop,∀m σ H',YG H'↔∃(v3:ZM),σ=[some We,some Z5,some ZkP,v3]/\Zd/\Ub n Znn:=Ye;refine⟨ZwH,ZfQ Pv ((Zi _).mpr ⟨none,rfl,s1,[],au,.nil⟩) (λi σ H' _ hv=>let⟨_,_,s2,_⟩:=(Zi _).mp hv;ag.of (s2.at hl)) ?_ ?_⟩
  ·ext O;obtain⟨v3,rfl,s2,AG,fH,dP⟩:=(Zi _).mp hv;ext M;obtain⟨r,e1,e2⟩:=rC eU gn (Eb (jv st (bI aT)));have bH:=xu dP;have kG:((km o ss).take m).length <=7:=by have h2:(km o ss).length =ss.length:=X3;rw[eY];omega
   have A9:st∉keys Znn:=by
    have:keys Znn=ss.take m:=by unfold keys km;rw[zk,bz];exact cb _ ZgQ
    rw[this];exact zI AV aT
   have e3:(km o ss)[m]? =some (st,Y1 st):=by unfold km;rw[cx,aT];rfl
   ext a;have dg:bZ H2 d ZdM (some Yl):=by have:=ZpL ZgA;rw[e1]at this;exact this
   refine⟨_,dg,_,ZpZ fH Zb,(Zi _).mpr ⟨_,rfl,bV s2 hn,_,au,?_⟩⟩;rw[dA e3];have ou:∀b o',b≠n->NT o'->H2 b=some o'->YM n (.dK (putK AG Zlo Yl)) b=some o':=λb o' hb _ e=>by rw[ax hb];exact e
   refine Kp (gA (λkv p q=>Kr fH Zpy ou q) dP) A9 ?_;exact ou r _ (ie (s2.at e2) fH (by intro z;cases z)) trivial (s2.at e2)
  ·ext R;obtain⟨v3,rfl,s2,hO⟩:=(Zi _).mp hv;ext a;refine k H' n s2 hn ?_;have:(km o ss).take (nats ss).length =km o ss:=by rw[bA];exact we (by unfold km;rw[aq];exact ZA)
   rw[this]at hO;exact hO
theorem ai2{f:Addr}{fd:FuncData}(T:Zm)(F:Zo "without_persons" "without_persons" Dh f fd):Z3 Gg QI:=by
 have nd:=RJ.nd;refine F.ok RJ Zj Zn
 ·obtain⟨d,l,o,xs,rfl,_⟩:=h;rfl
 ·obtain⟨d,l,o,xs,rfl,⟨kvs,hd,eU⟩,gn,pT,cC,hl,k⟩:=h;ext j;refine⟨_,(ao (WN D1)
   (ao (T9 (dN dF rfl (Kh Yp) VJ (ak (Ae hu ZR ZG (dW (own:=[("person",4)]) rfl nd (ZS Znk) (show cB aeX (aA Dh) _ _ from Yf) ZcD (λ_ _ _ _ _=>iX (ZgG YB ZC rfl)) ZnC) rfl))))
   (ak (ay (pv 2))))),?_⟩
  ext a;ext bS;obtain⟨Hf,p7⟩:∃Hf,Hf=upd ZcU d Zde:=Zs;rw[←p7];have sL:ZkD ZcU Hf:=by rw[p7];exact IS Zkx
  have sf:∀b o',b≠d->NT o'->H b=some o'->Hf b=some o':=λb o' hb t e=>Ztr;have ml:Hf d=some Zde:=by rw[p7];exact au
  have fn:Hf n=some ZaR:=by rw[p7,ax ZiL];exact au
  have LR:l≠d:=ZuZ;obtain⟨Pv,aB⟩:∃Pv:Nat->L2.St->Hp->Prop,∀m σ H',YG H'↔∃(v3 v4:ZM),σ=[some We,some Z5,some ZkP,v3,v4]/\WW Hf H'/\Ub n Znm:=Ye;refine⟨_,rfl,d,od,rfl,.inl ⟨kvs,ml,adk kvs Pv ((Zi _).mpr ⟨none,none,rfl,BR n Hf,[],fn,.nil⟩) (λi σ H' _ hv=>let⟨_,_,_,s2,_⟩:=(Zi _).mp hv;s2.at gU ml) ?_ ?_⟩⟩
  ·intro m z σ H2 hz hv;obtain⟨v3,v4,rfl,s2,AG,fH,dP⟩:=(Zi _).mp hv;obtain⟨p,hp,q1,r,q2,q3⟩:=gN eU hz;have jy:p∈o:=bI hp;obtain⟨r',e1,e2⟩:=rC eU gn (show(p.1,p.2)∈o from jy);have iE:r'≠d:=ie e2 hd (by intro z;cases z);have Lx:r'≠n:=cg e2 hn;have gR:H2 r'=some (.lst (nats p.2)):=s2.at Lx (sf _ _ iE trivial e2);have bH:H2 l=some ZiI:=s2.at (cg hl hn) (sf _ _ LR trivial hl);have dg:bZ H2 d (kV z.1) ZiK:=.inl ⟨kvs,ZnM,.inr ⟨od,ZfT⟩,by rw[q1],e1.symm⟩;have jz:=cC p jy;ext a;refine⟨_,dg,r',rfl,⟨_,ag.of gR⟩,e8 (zs:=p.2) (ag.of gR) XF Zb (λx=>!(xs.contains x)) nat (λi v x H' ig hx s3 R S bc hS=>?_) (λD3 H3 yw s3 h3=>?_)⟩
   ·ext cB
    ext a;refine TU Zke Yu;cases e:(!(xs.contains x))with
    |true=>exact Zi1
    |false=>exact Zi0
   ·have au0:=xu dP;have kG:((jQ o xs).take m).length <=7:=by have h2:(jQ o xs).length =o.length:=X3;rw[eY];omega
    have LW:keys (jQ o xs)=keys o:=by unfold keys jQ;rw[bz];rfl
    have A9:p.1∉keys Znm:=by
     have:keys Znm=(keys o).take m:=by rw[←LW];unfold keys;rw[zk]
     rw[this];exact zI gn (by unfold keys;rw[cx,hp];rfl)
    have e3:(jQ o xs)[m]? =some ZsW:=by unfold jQ;rw[cx,hp];rfl
    have kE:=s3.at fH;rw[q1];refine⟨_,qx.k (k:=ZnM) kE Zb,(Zi _).mpr ⟨_,_,rfl,(s2.same s3).put kE,_,au,?_⟩⟩;rw[dA e3];have ou:∀b o',b≠n->NT o'->H3 b=some o'->U5 n (.dK (putK AG ZnM (.ref D3))) b=some o':=λb o' hb _ e=>by rw[ax hb];exact e
    refine Kp (gA (λkv p' q=>Kr kE Zpy ou (q.same s3)) dP) A9 ?_;exact ou D3 _ (ie h3 kE (by intro z;cases z)) trivial h3
  ·ext b0;ext a;have kx:Z8 (Wy d YA):=by
    have L5:=ZfT;refine Zri L5
    ·exact s2.keep _ _ ZbV t (sf _ _ hb t e)
    ·ext b1
    ·exact ZtC
   refine k _ n kx hn ?_;have:(jQ o xs).take kvs.length=jQ o xs:=we (by unfold jQ;rw[aq,xu eU];exact ZA);rw[this]at hO;obtain⟨AG,fH,dP⟩:=hO;refine⟨AG,by rw[ax ZiL];exact fH,gA (λkv p q=>?_) dP⟩;exact Kr ZfT Zpy (λb o' hb _ e=>by rw[ax hb];exact e) q
end
end
section
open Vbwbal (signer load goesWith fits unsigned)
theorem atB{t u:TS}{D:Ends}{σ:L2.St}{H:Hp}(mid:L2.St->Hp->Prop)(h:∀N:L2.St->Hp->Prop,(∀σ' H',mid σ' H'->N σ' H')->t {D with nx:=N} σ H)(h2:∀σ' H',mid σ' H'->u D σ' H'):nR t u D σ H:=h (u D) h2
end
section
section
variable {X:Cx}
def ahX:R2:=λx y H Q=>∃a b xs ys,x=V.ref a/\y=V.ref b/\H a=some ZiI/\H b=some (.lst (nats ys))/\Q (.bl (xs != ys)) H
def iA(ns:Za):List PyData:=ns.map λ(n:Nat)=>PyData.int (n:Int)
theorem NK(K:PySem.W.Frag)(H:Hp):∀ns:List Nat,wC K H (nats ns) (iA ns)
 |[]=>.nil
 |n::r=>Zpb (NK K H r)
theorem adz:∀xs ys:List Nat,PyData.eqvAll (iA xs) (iA ys)=(xs==ys)
 |[],[]=>by simp[iA,PyData.eqvAll]
 |[],_::_=>by simp[iA,PyData.eqvAll]
 |_::_,[]=>by simp[iA,PyData.eqvAll]
 |x::r,y::t=>by
  have ih:=adz r t;unfold iA at ih⊢;rw[cw,cw];simp only[PyData.eqvAll,PyData.eqv];rw[ih];show(((x:Int)==(y:Int))&&(r==t))=((x==y)&&(r==t));congr 1;by_cases h:x=y
  ·subst h;simp
  ·have h1:((x:Int)==(y:Int))=false:=ip.mpr λq=>h (mF q);have h2:(x==y)=false:=ip.mpr h;rw[h1,h2]
theorem RC(ns:Za):SeqAt.shaped (.list (iA ns))=true:=by
 unfold SeqAt.shaped;rw[aP,bX];ext b
 ·have:∀ns:List Nat,PyData.canLayAll0 (iA ns)=true:=by
   intro ns
   induction ns with
   |nil=>simp[iA,PyData.canLayAll0]
   |cons a r ih=>
    unfold iA at ih⊢;simp only[cw,PyData.canLayAll0,PyData.canLay0,ih,Bool.and_self]
  simp only[PyData.canLay0];exact this ns
 ·have:∀ns:List Nat,PyData.depthAll (iA ns)<=1:=by
   intro ns
   induction ns with
   |nil=>simp[iA,PyData.depthAll]
   |cons a r ih=>
    unfold iA at ih⊢;simp only[cw,PyData.depthAll,PyData.depth];omega
  have h:=this ns;simp only[PyData.depth];omega
theorem aiP(hu:ZnP):ZmH ahX:=by
 ext m;obtain⟨a,b,xs,ys,rfl,rfl,ha,hb,q⟩:=h;refine aiQ hu pins s σ H _ _ v u Q I rx ry ⟨.list (iA xs),.list (iA ys),.lst Xe (NK _ _ _),.lst (ag.of hb) (NK _ _ _),RC _,RC _,?_⟩;have e:PyData.eqv (.list (iA xs)) (.list (iA ys))=(xs==ys):=by simp only[PyData.eqv];exact adz xs ys
 rw[e];exact q
end
end
section
open Vbwbal (signer load goesWith fits unsigned)
abbrev ae1:Zc:=["some","others","member"]
theorem R1:aV ae1 y8 (aA Dl):=Zl
abbrev atf:Zc:=["plan","steps","lists","step","tied","together","apart","each"]
theorem Ta:aV atf GZ (aA JP):=Zl
abbrev asw:Zc:=["plan","steps","others","step"]
theorem RP:aV asw BU (aA IZ):=Zl
abbrev ati:Zc:=["self","steps","persons"]
theorem Te:aV ati ze (aA DM):=Zl
theorem JU{α:Type}{F:Addr->α->Prop}:∀{rs:Zy} {rows:ZN},Zc6 rs rows->∃zs:List Zid,rs=zs.map Zg/\rows=zs.map Z1/\∀z∈zs,F z.1 z.2
 |_,_,.nil =>⟨[],rfl,rfl,λz h=>Ve⟩
 |_,_,.cons h t=>by
  rename_i a b l m;obtain⟨zs,e1,e2,e3⟩:=JU t;refine⟨(a,b)::zs,by rw[e1];rfl,by rw[e2];rfl,λz hz=>?_⟩;rcases aJ.mp hz with e|e
  ·rw[e];exact h
  ·exact e3 z e
theorem zip_rows{α:Type}{F:Addr->α->Prop}:∀(zs:ZgX),(∀z∈zs,F z.1 z.2)->Zc6 (zs.map Zg) (zs.map Z1)
 |[],_=>.nil
 |z::r,h=>.cons (h z aY) (zip_rows r λy hy=>h y ZdT)
theorem aoy{l m:Yq}(h:l.Sublist m):l.flatten.length<=m.flatten.length:=by
 induction h with
 |slnil=>exact ZA
 |cons a _ ih=>
  rw[nG,bS];omega
 |cons_cons a _ ih=>
  rw[nG,nG,bS,bS];omega
def refs{α:Type}(zs:ZgX):Ze:=zs.map λz=>V.ref z.1
theorem fT{α:Type}(zs:ZgX):(refs zs).length =zs.length:=X3
theorem qU{α:Type}(a b:ZgX):refs Zek=refs a++refs b:=cA
theorem qT{α:Type}{zs:ZgX}{i:Nat}{v:V}(h:(refs zs)[i]? =some v):∃z,zs[i]? =some z/\v=.ref z.1:=get_map h
theorem fN.zip{H:Hp}{a:Addr}{rows:Yq}(h:Za8 rows):∃zs:List (Addr×List Nat),H a=some Wn/\rows=zs.map Z1/\∀z∈zs,H z.1=some ZnG:=by obtain⟨rs,h1,h2⟩:=h;obtain⟨zs,e1,e2,e3⟩:=JU h2;refine⟨zs,?_,e2,e3⟩;rw[h1,e1,bz];rfl
theorem fN.aaL{H:Hp}{a:Addr}{zs:List (Addr×List Nat)}(h:H a=some Wn)(hz:∀z∈zs,H z.1=some ZnG):Za8 (zs.map Z1):=
 ⟨zs.map Zg,by rw[h,bz];rfl,zip_rows zs hz⟩
def C0:Sp:=λvs H Q _=>∃(a b:Addr) (xs ys:Za),vs=[.ref a,.ref b]/\H a=some ZiI/\H b=some (.lst (nats ys))/\xs.length<=1000/\
 ∀(H':Hp),Zd->Q (.bl (cI xs ys)) H'
def Iq(A:Ad):Sp:=λvs H Q _=>∃(p a:Addr) (i:aW) (P:Plan) (ss:Za),vs=[.ref p,.ref a]/\Y4/\ZF/\H a=some Zao/\ss.length<=7/\
 ∀(H':Hp) (l:Addr),Zd->H l=none->H' l=some (.lst (nats ZgH))->ZY H'
def Rt(A:Ad):Sp:=λvs H Q _=>∃(p a:Addr) (i:aW) (P:Plan) (ss:Za),vs=[.ref p,.ref a]/\Y4/\ZF/\H a=some Zao/\ss.length<=7/\
 ∀(H':Hp) (l:Addr),Zd->H l=none->fN H' l (kN P ss)->ZY H'
def mX(a b:V):Y6:=[("steps",a),("persons",b)]
theorem uE(a b:V):(mX a b).lookup ("steps":Str)=some a:=rfl
theorem D_(a b:V):(mX a b).lookup ("persons":Str)=some b:=rfl
def C4(A:Ad):Sp:=λvs H Q _=>∃(x dx:Addr) (a b:V),vs=[.ref x,a,b]/\H x=some ZxB/\Q .ba (V8 (ZcL (mX a b)))
theorem P_(P:Plan)(wf:ZF):∀ss:List Nat,(ia P ss).length <=24*ss.length
 |[]=>ZI
 |s::r=>by have ih:=P_ P wf r;unfold ia at ih⊢;rw[iR,bS,bb];have h1:=xp P.unlike s;have h2:=wf.unlike;omega
section
variable {P:Program}{w:World}{K:PySem.W.Frag}{mg:Zx}{base:Heap}{A:Ad}
theorem ajj{f:Addr}{fd:FuncData}(T:Zm)(F:Zo "share_any" "share_any" Dl f fd):Z3 y8 C0:=by
 have nd:=R1.nd;refine F.ok R1 Zj Zn
 ·obtain⟨a,b,xs,ys,rfl,_⟩:=h;rfl
 ·obtain⟨a,b,xs,ys,rfl,ha,hb,hl,k⟩:=h;refine⟨_,(ak (ay (Zhz (aa (dW (own:=[("member",2)]) rfl nd Zgy (show cB ae1 (aA Dl) _ _ from Yf) Zbf Xc (λ_ _ _ _ _=>(eE U1 ZR ZC rfl))) ai)))),?_⟩;ext a;refine⟨UD,e8 (zs:=xs) Xe XF Zb Y9 (λz=>.bl (ys.contains z)) Zbb W9⟩
  ·ext o
   ext a;exact nZ (s1.at hb) Zc5
  ·refine⟨D,rfl,xs.map λz=>ys.contains z,Zhu,?_⟩;have:=Wx;unfold cI at this;rw[wq];ext d
theorem ajB{f:Addr}{fd:FuncData}(T:Zm)(F:Zav "Part.__init__" DM f fd):Z3 ze (C4 A):=by
 have nd:=Te.nd;refine F.ok Te Zj Zn
 ·obtain⟨x,dx,a,b,rfl,_⟩:=h;rfl
 ·obtain⟨x,dx,a,b,rfl,hx,k⟩:=h;refine⟨_,(ao Zjg
   (ak (iY K (pv 0) (pv 2) rfl))),?_⟩
  ext a0;simp! [hx,T.oM,n1,n2];exact⟨Zk,(by show(1 :Nat)<1000;decide),k⟩
theorem ai8{f:Addr}{fd:FuncData}(T:Zm)(qa:ZmW)(F:Zo "unlike_steps" "unlike_steps" IZ f fd):X8 BU (Iq A):=by
 have nd:=RP.nd;refine F.ok RP Zj Zn
 ·obtain⟨p,a,i,P,ss,rfl,_⟩:=h;rfl
 ·ext c6;ext j;have nn:=Zaq;refine⟨_,(ao ZdB
   (ao (dN dF rfl (ZS ZC) VJ (ak (dU (Up ZR (aa Zse ai)))))
   (ak (ay (pv 2))))),?_⟩
  ext a;refine⟨ZI,λl cY=>?_⟩;have s1:ZpI:=a0 cY;obtain⟨Pv,aB⟩:∃Pv:Nat->L2.St->Hp->Prop,∀m σ H',YG H'↔∃(v3:ZM),σ=[some Z6,some ZX,some Z5,v3]/\Zd/\H' l=some (.lst (nats (ia P ZjN))):=Ye;refine⟨⟨_,ZcW⟩,ZfQ Pv ((Zi _).mpr ⟨none,rfl,s1,au⟩) (λi σ H' _ hv=>let⟨_,_,s2,_⟩:=(Zi _).mp hv;ag.of (s2.at ha)) ?_ ?_⟩
  ·ext O;ext dx;ext M;have gX:=Zgp;have hm:=ll aT;have h1:=P_ P wf ZjN;rw[eY]at h1;simp! [gX.ins,T.bU,nn,n8];refine⟨cQ hq,_,ZeP gX.pairs,ix.u,P.unlike,st,rfl,gX.unlike,wf.unlike,λH3 l3 s3 yc b0=>?_⟩;have h2:=xp P.unlike st;have h3:=wf.unlike;refine⟨l3,rfl,_,s3.at hq,_,b0,by rw[bA,bA];omega,(Zi _).mpr ⟨_,rfl,bV ZfU cY (gf (s3.at hq)),?_⟩⟩;rw[au,dA aT,←lj];unfold ia;rw[oT];simp
  ·ext R;ext dx;ext a;rw[bA,eg]at hq;exact k H' l s2 cY hq
theorem aks{f:Addr}{fd:FuncData}(T:Zm)(qa:ZmW)(p8:ZmE)(F:Zo "alike_steps" "alike_steps" JP f fd):X8 GZ (Rt A):=by
 have nd:=Ta.nd;refine F.ok Ta Zj Zn
 ·obtain⟨p,a,i,P,ss,rfl,_⟩:=h;rfl
 ·ext c6;ext j;have nn:=Zaq;have aK:∀y∈P.alike,y.1≠y.2:=λy hy=>VY ZiH;refine⟨_,(ao ZdB
   (ao (dN dF rfl (ZS ZC) VJ (ao (Zcf Zse)
   (ao (Zeh (bh X7))
   (ao (bq 6 nd WU)
   (ao (dN dF rfl (ZS ZR) (aZ 7 nd) (ak (bg (Z4 (az p8 hr rfl (aa (pv 7) ZaD)) Z0) (ak (dU (Up VZ (aa (pv 7) ai)))) (ak (dU (WK Za2 (aa (pv 7) ai)))))))
   (ak (bq 2 nd (cR lg (pv 6) (bh (aa (pv 5) ai))))))))))
   (ak (ay (pv 2))))),?_⟩
  ext a;refine⟨ZI,λl0 cY=>?_⟩;have s1:Z8 Zjt:=a0 cY;obtain⟨Pv,aB⟩:∃Pv:Nat->L2.St->Hp->Prop,∀m σ H',YG H'↔∃(l:Addr) (v3 v4 v5 v6 v7:ZM),σ=[some Z6,some ZX,some Z5,v3,v4,v5,v6,v7]/\Zd/\H l=none/\fN H' l (kN P ZjN):=Ye;refine⟨⟨_,ZcW⟩,ZfQ Pv ((Zi _).mpr ⟨l0,none,none,none,none,none,rfl,s1,cY,fN.aaL (zs:=[]) au (λz hz=>VG)⟩) (λi σ H' _ hv=>let⟨_,_,_,_,_,_,_,s2,_⟩:=(Zi _).mp hv;ag.of (s2.at ha)) ?_ ?_⟩
  ·ext O;ext cu;ext M;obtain⟨zs,bH,i9,js⟩:=r8.zip;have hm:=ll aT;have G:=Fx aK ZjN;have cE:zs.length<=7:=by have h1:=G.len;rw[i9,aq,eY]at h1;omega
   have acM:(zs.map Z1).flatten.length <=7:=by rw[←i9,G.perm.length_eq,eY];omega
   have gX:=Zgp;simp! [gX.ins,T.bU,nn,n8];refine⟨_,ZeR gX.pairs,ix.l,P.alike,st,rfl,gX.alike,wf.alike,λH3 lt s3 auZ bG=>?_⟩;ext a;refine⟨(by rw[hsz];decide),λlo pW=>⟨ZI,λlp nj=>?_⟩⟩;have s4:Wj (U5 lo Zot):=a0 pW;have acB:H3 lp=none:=s4.free nj;have x6:lp≠lo:=λe=>by rw[e,au]at nj;cases nj
   obtain⟨H5,mf⟩:∃H5,H5=upd (U5 lo Zot) lp Yh:=Zs;rw[←mf];have s5:Wj H5:=by rw[mf];exact bV s4 acB
   have Fb:H5 lo=some Zot:=by rw[mf,ax (λe=>x6 e.symm)];exact au
   have amZ:H5 lp=some Yh:=by rw[mf];exact au
   have s25:=s3.trans s5;obtain⟨gx,ack⟩:∃gx,gx=Xx st:=Zs;rw[←ack]at bG;obtain⟨Pw,cj⟩:∃Pw:Nat->L2.St->Hp->Prop,∀n σ H',Pw n σ H'↔∃(v7:ZM),σ=[some Z6,some ZX,some Z5,some ZdM,some (.ref lt),some Zki,some Zkj,v7]/\Wj H'/\
    H' lo=some (.lst (nats (st::(((zs.take n).filter λz=>cI z.2 gx).map Z1).flatten)))/\H' lp=some (.lst (refs ((zs.take n).filter λz=>!cI z.2 gx))):=Ye
   refine⟨⟨_,ag.of (s25.at bH)⟩,gH Zb3 Pw ((Yk _).mpr ⟨v7,rfl,s5,Fb,amZ⟩) (λi σ H' _ hv=>let⟨_,_,s6,_⟩:=(Yk _).mp hv;ag.of (s6.at Zke)) ?_ ?_⟩
   ·intro n y σ H6 hy hv;ext df;ext bq;have cO:z∈zs:=Xv;have hz6:H6 z.1=some ZnG:=s6.at (s3.at (js z cO));have auL:z.2.length<=7:=cq (K7 _ _ ZwQ) acM;have hf:(((zs.take n).filter λz=>cI z.2 gx).map Z1).flatten.length <=7:=by exact cq (aoy (List.Sublist.map _ (List.filter_sublist.trans (List.take_sublist n zs)))) acM
    have L6:((zs.take n).filter λz=>!cI z.2 gx).length <=7:=WO (by rw[eY];omega);ext a;refine⟨z.1,lt,z.2,gx,rfl,hz6,s6.at bG,Zb,λH7 s7=>?_⟩;have E9:=s7.at E_;have E8:=s7.at A5;refine Yu;cases e:cI z.2 gx with
    |true=>
     ext e;simp! [cQ E9];refine⟨_,E9,_,s7.at hz6,?_,(Yk _).mpr ⟨_,rfl,bV Zjz pW (gf E9),?_,?_⟩⟩
     ·rw[bA,bA,bb];omega
     ·rw[au,←lj,dA hz,wo];simp[e]
     ·rw[ax x6,dA hz,wo];simp[e];exact E8
    |false=>
     ext g;simp! [cQ E8];refine⟨_,E8,?_,(Yk _).mpr ⟨_,rfl,bV Zjz acB (gf E8),?_,?_⟩⟩
     ·rw[fT];omega
     ·rw[ax (λe=>x6 e.symm),dA hz,wo];simp[e];exact E9
     ·rw[au,dA hz,wo,qU];simp[e];rfl
   ·intro σ H6 hv;ext df;rw[fT,eg]at E_ A5;have L6:(zs.filter λz=>!cI z.2 gx).length <=7:=WO cE;ext a;refine⟨(by rw[hsz];decide),λq hq=>⟨refs Zu2,?_,?_,λq2 ng=>?_⟩⟩
    ·rw[ax (cg A5 hq)];exact A5
    ·rw[fT];omega
    have s7:ah H6 Zu1:=U8;have acs:H6 q2=none:=s7.free ng;have s8:ah H6 (upd Zu1 q2 (.lst (refs Zu2++[.ref lo]))):=bV s7 acs;have Tv:=(s3.trans s6).trans s8;refine(Zi _).mpr ⟨q2,_,_,_,_,_,rfl,s2.trans Tv,s2.free ((s3.trans s6).free acs),?_⟩;have ap5:kN P (ss.take XH)=((zs.filter λz=>!cI z.2 gx)++[(lo,st::((zs.filter λz=>cI z.2 gx).map Z1).flatten)]).map Z1:=by rw[dA aT,ar3,i9,cA];unfold sP;rw[wm,wm,←ack];rfl
    rw[ap5];refine fN.aaL (by rw[au,qU];rfl) (λz hz=>?_);rcases b8.mp hz with h|h
    ·exact Tv.at (js z (bD.mp h).1)
    ·rw[bo.mp h];exact s8.at E_
  ·ext R;ext cu;ext a;rw[bA,eg]at r8;exact k H' l s2 A6 r8
end
end
section
open Vbwbal (signer load goesWith fits unsigned)
abbrev OZ:Zc:=["plan","options","rooms","steps","able","person","step"]
theorem Sh:aV OZ Gy (aA zV):=Zl
abbrev ae5:Zc:=["plan","parts","taken","person","room","unlike","others","part","persons","each"]
theorem Se:aV ae5 Gw (aA Dr):=Zl
theorem zT{H H1:Hp}{x dx:Addr}{o:HO}(s:Zcn)(hx:H1 x=none)(hd:H1 dx=none)(ne:dx≠x):Z8 (upd (Yr dx ZbH) x o):=
 bV (bV s (s.free hd) (rG hd)) (s.free hx) (rG (by rw[ax (λe=>ne e.symm)];exact hx))
def dk(rm:ZK):Nat->Int:=λx=>rm.getD x 0
theorem EI{n i:Nat}(h:i<n):m7 n (i:Int)=some i:=by unfold m7;rw[af Zb,af Zb];simp
theorem JW{rm:ZK}{x:Nat}(h:x<rm.length):(rm.map V.int)[x]? =some (.int (YY x)):=by unfold dk;rw[cx,jN,fP h];rfl
theorem aaE{H:Hp}:∀{kvs:Yb} {o:cz},Zan o->(kvs.map λkv=>kV kv.1)=nats XU
 |_,_,.nil =>rfl
 |_,_,.cons h t=>by rw[cw,aaE t,h.1];rfl
def sR(A:Ad)(H:Hp)(p:Addr)(q:Pt):Prop:=∃dx ls lp,H p=some Zt7/\H ls=some ZnE/\H lp=some ZnF
theorem sR.same{A:Ad}{H H':Hp}{p:Addr}{q:Pt}(s:Zd)(h:sR A H p q):sR A H' p q:=by obtain⟨dx,ls,lp,h1,h2,h3⟩:=h;exact⟨dx,ls,lp,UY,Zei,s.at h3⟩
def y4(A:Ad)(H:Hp)(a:Addr)(ps:Xu):Prop:=∃zs:List (Addr×Pt),H a=some Wn/\ps=zs.map Z1/\∀z∈zs,sR A H z.1 z.2
theorem y4.same{A:Ad}{H H':Hp}{p:Addr}{q:Xu}(s:Zd)(h:y4 A H p q):y4 A H' p q:=by obtain⟨zs,h1,h2,h3⟩:=h;exact⟨zs,UY,h2,λz hz=>(h3 z hz).same s⟩
def qm(A:Ad)(n:Addr)(H:Hp)(p:Addr)(q:Pt):Prop:=∃dx ls lp,H p=some Zt7/\H ls=some ZnE/\H lp=some ZnF/\ls≠n/\lp≠n
theorem qm.part{A:Ad}{n:Addr}{H:Hp}{p:Addr}{q:Pt}(h:qm A n H p q):sR A H p q:=let⟨dx,ls,lp,h1,h2,h3,_⟩:=h;⟨dx,ls,lp,h1,h2,h3⟩
theorem qm.same{A:Ad}{n:Addr}{H H':Hp}{p:Addr}{q:Pt}(s:Zd)(h:qm A n H p q):qm A n H' p q:=by obtain⟨dx,ls,lp,h1,h2,h3,h4⟩:=h;exact⟨dx,ls,lp,UY,Zei,s.at h3,h4⟩
def aso(A:Ad)(H H':Hp)(a p:Addr)(q:Pt):Prop:=∃dx lp,H' p=some (ZcL (mX ZX Zkj))/\H' a=some ZnE/\H' lp=some ZnF/\H lp=none
def Q0(A:Ad):Sp:=λvs H Q _=>∃(p d r a:Addr) (i:aW) (P:Plan) (o:cz) (rm:ZK) (ss:Za),vs=[.ref p,.ref d,.ref r,.ref a]/\Y4/\ZF/\Za0/\(keys o).Nodup /\
 (∀q∈o,q.2.length<=7/\∀y∈q.2,y<rm.length)/\H r=some ZcK/\H a=some Zao/\ss≠[]/\(∀s∈ss,s∈keys o)/\ss.length<=7/\
 ∀(H':Hp) (l:Addr),Zd->H l=none->aso A H H' a l (ZbQ ss)->ZY H'
def QY(A:Ad):Sp:=λvs H Q _=>∃(p a t:Addr) (i:aW) (P:Plan) (ps:Xu) (q:Pt) (x:Nat) (room:Int),vs=[.ref p,.ref a,.ref t,nat x,.int room]/\Y4/\ZF/\y4 A H a ps/\sR A H t q/\ps.length<=7/\
 (∀q∈ps,q.1.length<=7/\q.2.length<=7)/\q.1.length<=7/\
 ∀(H':Hp) (l:Addr),Zd->H l=none->y4 A H' l (ZbC room)->ZY H'
section
variable {P:Program}{w:World}{K:PySem.W.Frag}{mg:Zx}{base:Heap}{A:Ad}
theorem ajA{f:Addr}{fd:FuncData}(T:Zm)(p8:ZmE)(yA:ZuA)(vz:ZuS)
  (F:Zo "part_of" "part_of" zV f fd):VO Gy (Q0 A):=by
 have nd:=Sh.nd;refine F.ok Sh Zj Zn
 ·obtain⟨p,d,r,a,i,P,o,rm,ss,rfl,_⟩:=h;rfl
 ·obtain⟨p,d,r,a,ix,P,o,rm,ss,rfl,hP,wf,hO,gn,xW,jw,ha,aK,iI,pX,k⟩:=h;ext j;refine⟨_,(ao (bg (Z4 (az p8 hr rfl (aa ZG (aa (az yA hr rfl (ZL X7)) ai))) Z0) (ak (ay (rq vz hr rfl (aa ZG Zqr)))) bp)
   (ao (pC 4 (own:=[("person",5)]) rfl nd (ZS (Uc ZC (Wk ZG aR Z2) Z2)) ZtE Zmq (λ_ _ _ _ _=>iX (bN Ku (Wk ZR VZ Z2) (XI X7) ZP)) ZyL)
   (ao (dN dF rfl (ZS ZG) Zkp (ak (pC 4 (own:=[("person",5)]) rfl nd (ZS YB) ZtE Zmq (λ_ _ _ _ _=>iX (bN U1 VZ (Uc ZC Za2 Z2) rfl)) ZyL)))
   (ak (ay (rq vz hr rfl (aa (pv 3) (aa (pv 4) ai)))))))),?_⟩
  ext a;refine⟨p,a,ix,P,ss,rfl,hP,wf,ha,pX,λH1 l1 s1 yd cX=>?_⟩;refine⟨a,l1,ss,_,rfl,s1.at ha,cX,Zb,λH2 s2=>?_⟩;ext C;refine Yu;cases esh:cI ss ZgH with
  |true=>
   ext e;simp! [b7];refine λl3 b0 x dx hx gE ne=>?_;refine Zvz;have s3:Xw (YM l3 Yh):=a0 b0;have s4:=zT (o:=ZcL (mX ZX (.ref l3))) s3 hx gE ne;rw[jh];refine k _ x ZpN (cD.free (s3.free hx)) ⟨dx,l3,au,s4.at (cD.at ha),?_,cD.free b0⟩;have e:(ZbQ ss).2=[]:=by unfold jm;rw[af esh]
   rw[e];have h1:l3≠x:=λe=>by rw[←e,au]at hx;cases hx
   have h2:l3≠dx:=λe=>by rw[←e,au]at gE;cases gE
   rw[ax h1,ax h2];exact au
  |false=>
   ext g;obtain⟨s0,sr,ess⟩:∃s0 sr,ss=s0::sr:=by
    cases ss with
    |nil=>exact absurd rfl aK
    |cons a b=>exact ZjO
   have Fg:∀st∈ss,∀H',Zd->∃r',Zeg ZdM ZiK/\H' r'=some (.lst (nats (Y1 st)))/\(Y1 st).length <=7/\∀y∈Y1 st,y<rm.length:=λst aT H' s'=>by obtain⟨kvs,hd,eU⟩:=hO.same s';have hm:=Eb (iI st aT);obtain⟨r',e1,e2⟩:=rC eU gn hm;refine⟨r',?_,e2,xW _ hm⟩;have:=ZpL hd;rw[e1]at this;exact this
   have fX:s0∈ss:=by rw[ess];exact aY
   obtain⟨r0,dg0,gm,cY,hy0⟩:=Fg s0 fX H2 cD;have hg0:(nats ss)[0]? =some (nat s0):=by rw[ess];rfl
   obtain⟨vR,Mi⟩:∃vR,vR=(Y1 s0).filter λx=>decide ((ss.length:Int)<=YY x):=Zs;have L1:(ZbQ ss).2=vR.filter λx=>ss.all λs=>(Y1 s).contains x:=by unfold jm;rw[esh,Mi,ess];rfl
   have jF:=cD.at ha;refine⟨_,Zkw,_,bQ hg0,_,dg0,r0,rfl,⟨_,ag.of gm⟩,e8 (zs:=Y1 s0) (ag.of gm) XF Zb (λx=>decide ((ss.length:Int)<=YY x)) nat (λi v y H' hv hy s3 R S bc hS=>?_) (λl3 H3 hD s3 b0=>?_)⟩
   ·ext cT
    have jt:=hy0 y (bI hy);ext a;refine⟨_,ag.of (s3.at (cD.at jw)),_,bQ (JW jt),_,.inl ⟨_,ag.of (s3.at jF),rfl⟩,?_⟩;simp! [bA];cases e:decide ((ss.length:Int)<=YY y)with
    |true=>exact Zi1
    |false=>exact Zi0
   rw[←Mi]at b0;have b0:H3 l3=some (.lst (nats vR)):=b0;obtain⟨Pv,aB⟩:∃Pv:Nat->L2.St->Hp->Prop,∀m σ H',YG H'↔∃(l:Addr) (v5 v6:ZM),σ=[some Z6,some We,some Yl,some ZX,some Z5,v5,v6]/\Xw H'/\H l=none/\H' l=some (.lst (nats (vR.filter λx=>(ss.take m).all λs=>(Y1 s).contains x))):=Ye;refine⟨⟨_,ag.of (s3.at jF)⟩,ZfQ Pv ((Zi _).mpr ⟨l3,none,none,rfl,s3,cD.free hD,by rw[b0];simp[filter_all]⟩) (λi σ H' _ hv=>let⟨_,_,_,_,s4,_⟩:=(Zi _).mp hv;ag.of (s4.at jF)) ?_ ?_⟩
   ·intro m y σ H4 hy hv;ext cN;ext M;have hle:(vR.filter λx=>(ss.take m).all λs=>(Y1 s).contains x).length <=7:=WO (by rw[Mi];exact WO cY);ext a;refine⟨⟨_,ag.of ik⟩,e8 (zs:=vR.filter λx=>(ss.take m).all λs=>(Y1 s).contains x) (ag.of ik) XF Zb (λx=>(Y1 st).contains x) nat (λi v y H' hv hy s5 R S bc hS=>?_) (λD H' hD s5 h=>(Zi _).mpr ⟨D,_,_,rfl,ZaA,cD.free (s4.free hD),?_⟩)⟩
    ·ext cT
     obtain⟨r5,dg5,Ly,_,_⟩:=Fg st (bI aT) H' ((cD.trans s4).trans s5);ext a;refine⟨_,dg5,nZ Ly Yu⟩;cases e:(Y1 st).contains y with
     |true=>exact Zi1
     |false=>exact Zi0
    ·rw[h,qv];congr 2;unfold nats;congr 1;refine nH λx _=>?_;rw[dA aT,List.all_append,Bool.and_comm];simp
   ·intro σ H4 hv;ext cN;rw[bA,eg,←L1]at ik;ext a;refine λx dx hx gE ne=>Zvz;have s5:=zT (o:=ZcL (mX ZX (.ref l4))) (ah.refl H4) hx gE ne;have jS:=ZpN;rw[jh];exact k _ x (jS.trans s5) (jS.free hx) ⟨dx,l4,au,s5.at (jS.at ha),s5.at ik,oA⟩
theorem ajx{f:Addr}{fd:FuncData}(T:Zm)(p8:ZmE)(yA:ZuA)(vz:ZuS)
  (F:Zo "parts_behind" "parts_behind" Dr f fd):VO Gw (QY A):=by
 have nd:=Se.nd;refine F.ok Se Zj Zn
 ·obtain⟨p,a,t,i,P,ps,q,x,room,rfl,_⟩:=h;rfl
 ·obtain⟨p,a,t,ix,P,ps,q,x,room,rfl,hP,wf,⟨zs,ha,i9,js⟩,⟨tdx,Qe,tlp,AU,AS,ht3⟩,cC,jz,xW,k⟩:=h;ext j;ext a0;refine⟨_,(ao (Zeh (az yA hr rfl (ZL (aa (aD K ZR rfl) ai))))
   (ao (bq 6 nd WU)
   (ao (dN dF rfl (ZS ZC) (aZ 7 nd) (ak (bg (bN (aiP hr.units) Zix (aD K ZR rfl) ZP) (ao (bq 8 nd Zix)
   (ao (bg (PW.pt (pB (bN rE YB (XI (aa Zix ai)) ZP) (pA (Z4 (az p8 hr rfl (aa Zix (aa VZ ai))) Z0)))) (ak (pC 8 (own:=[("each",9)]) rfl nd (ZS (pv 8)) (show cB ae5 (aA Dr) _ _ from Yf) (λ_ _ _ _ _=>(aZ 9 nd)) (λ_ _ _ _ _=>iX (bN xx (pv 9) ZG ZP)) (λ_ _ _ _ _=>(pv 9)))) bp)
   (ak (dU (dq K dE ir iq gO (pv 6) (aa (rq vz hr rfl (aa (aD K (pv 7) rfl) (aa (pv 8) ai))) ai)))))) bp)))
   (ak (ay (pv 6)))))),?_⟩
  simp! [AU,T.oM,n1,uE];refine⟨p,Qe,ix,P,q.1,rfl,hP,wf,AS,xW,λH1 lu s1 auY LN=>?_⟩;simp! [b7];intro lo pW;have am1:H lo=none:=s1.free pW;have s2:YH (Yr lo Yh):=a0 pW;have DT:=XJ;have cE:zs.length<=7:=by rw[i9,aq]at cC;exact cC
  obtain⟨Pv,aB⟩:∃Pv:Nat->L2.St->Hp->Prop,∀m σ H',YG H'↔∃(v7 v8 v9:ZM) (ys:List (Addr×Pt)),σ=[some Z6,some ZX,some Zb1,some XZ,some Zqc,some (.ref lu),some Zki,v7,v8,v9]/\V5/\H' lo=some Zn4/\
   ys.map Z1=iN P ZmR q.1 x room/\(∀z∈ys,qm A lo H' z.1 z.2)/\ys.length<=m/\∀z∈ys,z.1≠lo:=Ye
  refine⟨⟨_,ag.of (DT.at ha)⟩,gH Zb3 Pv ((Zi _).mpr ⟨none,none,none,[],rfl,s2,au,rfl,λz hz=>VG,ZA,λz hz=>VG⟩) (λi σ H' _ hv=>let⟨_,_,_,_,_,s3,_⟩:=(Zi _).mp hv;ag.of (s3.at (s1.at ha))) ?_ ?_⟩
  ·ext aC;ext cr;ext bq;have cO:z∈zs:=Xv;have hm7:=ll hz;have cG:=Zp0;obtain⟨zdx,oZ,zB,fF,ma,pO⟩:=(js z cO).same s1;have amh:oZ≠lo:=cg ma pW;have ami:zB≠lo:=cg pO pW;replace fF:=s3.at fF;replace ma:=s3.at ma;replace pO:=s3.at pO;have Ll:=jz z.2 (by rw[i9];exact ZwQ);have amr:=cG.at AU;simp! [fF,amr,T.oM,n1,n2,uE,D_];refine⟨oZ,Qe,z.2.1,q.1,rfl,rfl,ma,cG.at AS,_,rfl,?_⟩;have adF:iN P ((zs.take XH).map Z1) q.1 x room=iN P ZmR q.1 x room++iN P [z.2] q.1 x room:=by rw[dA hz,cA];unfold iN;rw[wo,cA];rfl
   cases ene:(z.2.1 != q.1)with
   |false=>
    refine aF ((Zi _).mpr ⟨_,_,_,ys,rfl,s3,pV,?_,i6,Zb,EO⟩);rw[adF,qh];unfold iN;simp[ene]
   |true=>
    ext e;obtain⟨L,hL⟩:∃L,L=(if(decide (room<(z.2.1.length:Int))||cI z.2.1 Zgd)=true then z.2.2.filter Zdg else z.2.2):=Zs;have eb2:iN P [z.2] q.1 x room=[(z.2.1,L)]:=by unfold iN;rw[jf,af ene,hL];rfl
    have abz:∀(H4:Hp) (Q':VK),Wj H4->(∀D H5,H4 D=none->ah H4 H5->H5 D=some (.lst (nats (z.2.2.filter λy=>y != x)))->Q' Vh H5)->oX (wu K zB) (kK 9) (pf (mL qX (kR 9) (kR 3))) (kR 9) [9]
      [some Z6,some ZX,some Zb1,some XZ,some Zqc,some (.ref lu),some Zki,some ZaI,some (.ref zB),v9] Q' H4:=λH4 Q' s4 hQ'=>by
     refine e8 (zs:=z.2.2) (ag.of (s4.at pO)) XF Zb Zdg nat (λi v y nI ig hy s5 R S bc hS=>?_) (λD H5 hD s5 h=>hQ' D H5 hD s5 h);obtain⟨y',jX,rfl⟩:=get_map ig;rw[hy]at jX;cases jX
     ext u
     ·simp! [e,qA];exact hS Zdn _ ZU
     ·simp! [e,wD];exact bc Zdn _ ZU
    have fin:∀(H4:Hp) (r4:Addr),Wj H4->H4 r4=some (.lst (nats L))->r4≠lo->∀x_1 dx,H4 x_1=none->H4 dx=none->¬dx=x_1->C4 A [.ref x_1,.ref oZ,.ref r4] (upd (U6 dx (.own x_1)) x_1 ZxB)
      (λv H2=>v=V.ba/\∃x_2,H2 lo=some (.lst x_2)/\x_2.length<sizeLine/\Pv XH [some Z6,some ZX,some Zb1,some XZ,some Zqc,some (.ref lu),some Zki,some ZaI,some (.ref r4),v9] (YM lo (.lst (x_2++[.ref x_1])))) E0:=λH4 r4 s4 h4 hr4 x1 dx AM gE aK=>by
     have s5:=zT (o:=ZlU) (ah.refl H4) AM gE aK;have acC:=s4.at pV;obtain⟨H5,mf⟩:∃H5,H5=upd (U6 dx (.own x1)) x1 ZlU:=Zs;rw[←mf]at s5;have xf:=ZaA;have hx5:H5 x1=some ZlU:=by rw[mf];exact au
     have acz:x1≠lo:=λe=>by rw[e,acC]at AM;cases AM
     have Fb:=s5.at acC;have abW:∀y qq,y≠lo->qm A lo H5 y qq->qm A lo (upd H5 lo (.lst (refs ys++[.ref x1]))) y qq:=λy qq hy ⟨d1,l1,l2,e1,e2,e3,e4,e5⟩=>
      ⟨d1,l1,l2,by rw[ax hy];exact e1,ZxR,ZxS,e4,e5⟩
     refine⟨x1,dx,_,_,rfl,au,rfl,refs ys,?_,Zi3,(Zi _).mpr ⟨_,_,_,ys++[(x1,(z.2.1,L))],rfl,?_,?_,?_,?_,?_,?_⟩⟩
     ·rw[jh,←mf];exact Fb
     ·rw[jh,←mf];exact bV (s3.trans xf) pW (gf Fb)
     ·rw[au,qU];rfl
     ·rw[cA,qh,adF,eb2];rfl
     ·intro y hy;rw[jh,←mf];rcases b8.mp hy with h|h
      ·exact abW _ _ (EO y h) ((i6 y h).same xf)
      ·rw[bo.mp h];exact abW _ _ acz ⟨dx,oZ,r4,hx5,xf.at ma,s5.at h4,amh,hr4⟩
     ·rw[bS,O8];omega
     ·intro y hy;rcases b8.mp hy with h|h
      ·exact EO y h
      ·rw[bo.mp h];exact acz
    simp! [fF,T.oM,n1,n2,uE,D_];refine⟨_,.inl ⟨_,ag.of ma,rfl⟩,?_⟩;simp only[bA];cases eroom:decide (room<(z.2.1.length:Int))with
    |true=>
     rw[eroom,Bool.true_or,af rfl]at hL;refine aI ⟨⟨_,ag.of pO⟩,abz H3 _ (ah.refl H3) λD H4 hD s4 h4=>?_⟩;rw[←hL]at h4;have EN:=s4.at fF;simp! [EN,T.oM,n1,uE];exact⟨cQ (s4.at pV),fin H4 D s4 h4 (λe=>by rw[e,pV]at hD;cases hD)⟩
    |false=>
     rw[eroom,Hq]at hL;ext g;refine⟨oZ,lu,z.2.1,_,rfl,ma,s3.at LN,Zb,λH4 s4=>Yu⟩;have EN:=s4.at fF;cases esh:cI z.2.1 Zgd with
     |true=>
      rw[esh,af rfl]at hL;refine aI ⟨⟨_,ag.of (s4.at pO)⟩,abz H4 _ s4 λD H5 hD s5 h5=>?_⟩;rw[←hL]at h5;have amj:=s5.at EN;simp! [amj,T.oM,n1,uE];exact⟨cQ ((s4.trans s5).at pV),fin H5 D ZaA h5 (λe=>by rw[e,s4.at pV]at hD;cases hD)⟩
     |false=>
      rw[esh,ae Zh]at hL;ext g;simp! [EN,T.oM,n1,uE];exact⟨cQ (s4.at pV),fin H4 zB s4 (by rw[hL];exact s4.at pO) ami⟩
  ·ext B;ext cr;rw[fT,eg,←i9]at qh;ext a;exact k H3 lo Zp0 am1 ⟨ys,pV,qh.symm,λz hz=>(i6 z hz).part⟩
end
end
section
open PySem.W (kla_fn kla_obj)
abbrev aff:Zc:=["plan","parts","rooms","part","person","left"]
theorem IP:aV aff vZ (aA zZ):=Zl
def arT:Stmt->Expr
 | .Assign _ v _=>v
 |_=>Zhw
def kwAt(e:Expr):Expr:=match e with
 | .Call _ _ (k::_) _=>k.value
 |_=>Zhw
def K_(e:Expr):Arguments:=match e with
 | .Lambda a _ _ _=>a
 |_=>{posonlyargs:=[],args:=[],vararg:=none,kwonlyargs:=[],kw_defaults:=[],kwarg:=none,defaults:=[]}
def EC(e:Expr):Expr:=match e with
 | .Lambda _ b _ _=>b
 |_=>Zhw
def EA(e:Expr):Scope:=match e with
 | .Lambda _ _ s _=>s
 |_=>{kind:=.function,names:=[],isGenerator:=false,isCoroutine:=false}
def EB(e:Expr):Pos:=match e with
 | .Lambda _ _ _ p=>p
 |_=>Zp8
abbrev KQ:Expr:=arT ((oK zZ).getD 1 Zh5)
abbrev jr:Expr:=kwAt KQ
abbrev oo(pm:Value)(c:Addr)(fB:Value):Obj:=kla_obj "<lambda>" rP (K_ jr) (EC jr) (EA jr) [] pm c fB
section
variable {prog:Program}{w:World}{A:Around}{K:PySem.W.Frag}{s:Shared}{mg mb:Zx}{f c a dx C lp:Addr}{pm fB:Value}{mA:Zx}{its:YN}
theorem alE(KX:Zdt)(hg:s.heap.Ns mainGlobals mg)(hb:s.heap.Ns builtinsNs mb)(hbl:mb "len"=some ZiF)(hgl:mg "len"=none)(lim:s.heap.NoLimit)
  (hf:s.heap.get? f=some ZpX) (lB:s.heap.CodeRec Zb0 rP) (Lv:A.depth<recursionLimit)
  (O:sU s.heap a dx C mA) (cl:jP K C) (nn:Vx "persons") (hu:mA "persons"=some Zkj) (hl:s.heap.IsList lp its) (hsz:its.size<1000):
  wpAny Y5 A (call Yo [.ref a]) (λv s'=>∃h' tk t',s'={s with heap:=h',toks:=tk}/\v=.int its.size t'/\∀b o,s.heap.get? b=some o->h'.get? b=some o) Zfb s:=by
 refine CC (PySem.W.kla_callFunE (body:=EC jr) Lv hf rfl rfl rfl rfl lB ?_);have Mh:bindArgs (kla_fn "<lambda>" rP (K_ jr) (EC jr) (EA jr) [] pm Zb0 fB) ⟨[.ref a],[]⟩=pure [(("each":Str),Value.ref a)]:=rfl;rw[Mh];refine aL (wpAny_newFunctionEnv (show∀x∈(EA jr).names,x.2≠NameKind.cell by decide+kernel) (λy hy=>?_) (λh1 vc hsb=>⟨lim.fresh _ hsb,?_⟩) rfl)
 ·rw[bo.mp hy];rfl
 have gT:∀b o,s.heap.get? b=some o->h1.get? b=some o:=λb o e=>hsb.extBut b o ZkU XY;refine PySem.W.kla_codeExpr ?_;have O1:sU h1 a dx C mA:=⟨gT _ _ O.obj,O.ns.at λo q=>gT _ _ q,O.ne⟩;refine tj (afZ rfl rfl (atv (hg.keeps gT) hgl (hb.keeps gT) hbl ?_) Zk);refine asl ?_ rfl rfl;refine Hn (aes rfl (HI (PY rfl rfl vc rfl ?_) Zk));refine L2.get_map (s:={s with heap:=h1,toks:=_}) (KX.keeps gT) O1 (cl.get _) cl.hd nn hu rfl ?_;refine Pr ?_;refine Calls.call_len_list (s:={s with heap:=h1,toks:=_}) (let⟨o,e1,e2⟩:=hl;⟨o,gT _ _ e1,e2⟩) ?_ ?_
 ·have:(its.size:Int)<1000:=by omega
  omega
 ·exact⟨h1,_,_,rfl,rfl,gT⟩
end
def BMain(mg:Zx)(h:Heap):Prop:=∃bm ob,mg "__builtins__"=some (.ref bm)/\bm≠builtinsNs/\h.get? bm=some ob/\ob.cls=.type "module"/\ob.dict=some builtinsNs/\ob.data=.plain
def Ez(f:Addr)(pm:Value)(c:Addr)(fB:Value):HO:=.ext λh=>h.get? f=some ZpX
def atq(H:Hp)(f:Addr):Prop:=∃pm c fB,H f=some (Ez f pm c fB)/\H c=some (BH c)
theorem ar1{pos:Pos}{a b:Int}{c cv:Value}{l:Zq}(h:TriplesOk l)(e:ZpP (l++[rawInt a,rawInt b,c])=some cv):ZpP l=some cv∨cv=c:=by
 fun_induction TriplesOk l with
 |case1=>
  simp only[my,codeAmong,rawInt]at e;split at e
  ·exact .inr (bY e).symm
  ·cases e
 |case2 a' t b' u x rest ih=>
  simp only[oV,codeAmong]at e⊢;split at e
  ·rename_i hc;rw[af hc];exact Zb9
  ·rename_i hc;rw[ae hc];exact ih h e
 |case3 l h1 h2=>exact h.elim
theorem ad3{c:Addr}{q:Str}(h1 h2:Heap)(x:h1.CodeRec Zb0 q)(k:∀o,h1.get? c=some o->h2.get? c=some o):h2.CodeRec Zb0 q:=by
 ext dj
 exact⟨c,oc,vs,t,rfl,k _ ho,hd⟩
theorem aqF{P:Program}{w:World}{H:Hp}{h:Heap}{c:Addr}(x:h.CodeRec Zb0 rP):dJ P w H h c (BH c):=by
 refine⟨x,?_,λh1 h2 y k=>ad3 h1 h2 y k⟩;ext dj
 exact⟨oc,ho⟩
theorem abD{P:Program}{w:World}{H:Hp}{h:Heap}{f:Addr}{pm:Value}{c:Addr}{fB:Value}(x:h.get? f=some ZpX):dJ P w H h f (Ez f pm c fB):=
 ⟨x,⟨_,x⟩,λh1 h2 y k=>k _ y⟩
section
variable {X:Cx}{A:Ad}{c:Addr}{pins:Zv}{s:Shared}{σ:L2.St}{H:Hp}{R:Zt}{E:Zt}{A0:Around}
theorem alD(yi:X.env.code=.ref c)(hC:ZuN)(hB:BMain X.mg X.base)(hq:Zv2)(I:Zf)(hT:ZkF)
  (h:∀f H' s',VS->Zd->atq H' f->R Yo s'):wpAny Yd A0 (eval jr X.env) R E s:=by
 obtain⟨ps,hP,ht,acU⟩:=id hT;have Fs:s.heap.get? A.tab=some (PySem.W.tabObj ps):=I.aC _ _ hP;have hg:=Zm2;ext dt;have hgP:mainGlobals≠A.tab:=λq=>by
  obtain⟨o,es,ep,e,hd,_⟩:=hg;rw[q,Fs]at e;cases e
  cases hd
 have hbP:bm≠A.tab:=λq=>by
  have e:=I.bk _ _ b3;rw[q,Fs]at e;cases e
  cases b4
 have hbG:bm≠mainGlobals:=λq=>by
  obtain⟨o,es,ep,e,hd,_⟩:=I.mod.glob;rw[q,e]at b3;cases b3
  rw[hd]at b6;cases b6
 have hbA:s.heap.BuiltinsAt X.mg A.tab:=⟨bm,ob,b1,b2,hbG,hbP,I.bk _ _ b3,b4,b5,b6⟩;refine PySem.W.kla_eval (params:=K_ jr) (body:=EC jr) (scope:=EA jr) (pos:=EB jr) rfl ?_;rw[hq];cases hca:codeAmong (EB jr) ps.toList with
 |some cv=>
  obtain⟨c',rfl,fI⟩:=acU _ _ hca;refine PySem.W.kla_makeFunctionHit (mg:=X.mg) (clos:=[]) rfl I.ok.glob hg yi (hC.keeps I.bk) Fs ht hca hbA λfB h' tk hk hsz=>?_;have I1:=I.kept (t':=tk) hk;have e1:(h'.push Zew).get? h'.objs.size=some Zew:=dj _ rfl;have I2:=ZqU;have j4:H h'.objs.size=none:=ZeZ;refine h _ _ _ I2 (a0 j4) ⟨_,c',fB,au,?_⟩;rw[ax (cg fI j4)];exact fI
 |none=>
  refine PySem.W.kla_makeFunction (mg:=X.mg) (clos:=[]) rfl I.ok.glob hg yi (hC.keeps I.bk) Fs ht hca hgP hbA λc' fB h' tk hx vh bG m9 Lp=>?_;have yj:H c'=none:=I.aC.fresh vh;have hcP:A.tab≠c':=cg hP yj;obtain⟨iz,kL⟩:∃iz,iz=ps++ #[rawInt (EB jr).line,rawInt (EB jr).col,Value.ref c']:=Zs;rw[←kL]at Lp;obtain⟨H1,fw⟩:∃H1,H1=upd (ZH A.tab ZdK) c' (BH c'):=Zs;have g1:H1 A.tab=some ZdK:=by rw[fw,ax hcP];exact au
  have g2:H1 c'=some (BH c'):=by rw[fw];exact au
  have g3:∀b,b≠A.tab->b≠c'->H1 b=H b:=λb n1 n2=>by rw[fw,ax n2,ax n1]
  have hk:∀b o,b≠A.tab->s.heap.get? b=some o->h'.get? b=some o:=λb o n e=>hx b o n e;have nP:∀b o,H b=some o->(∀q,o≠.b9 q)->b≠A.tab:=λb o e n z=>by rw[z,hP]at e;exact n _ (bY e).symm
  have nC:∀b o,H b=some o->b≠c':=λb o e=>cg e yj;have LF:ZbB H1 h':=λb o e=>by
   by_cases jE:b=A.tab
   ·subst jE;rw[g1]at e;cases e
    exact Lp
   ·by_cases oF:b=c'
    ·subst oF;rw[g2]at e;cases e
     exact aqF m9
    ·rw[g3 b jE oF]at e;refine(Zcj o e).lO (λd u hd q=>hk d u ?_ q) (λd q=>?_) λd xs q=>?_
     ·rcases hd with rfl|hd
      ·exact jE
      ·exact nP _ _ hd ZeM
     ·ext dg
     ·ext dg
  have Ky:∀b,H b=none->b≠A.tab:=λb n z=>by rw[z,hP]at n;cases n
  have un1:Un X.fs [] H H1 s.heap h':=by
   refine⟨λb o e n _ _=>hk b o (Ky b n) e,λb o e n _ _=>⟨o.slots,hk b o (Ky b n) e⟩,λb o e n _=>?_,λb o e _=>?_,λb xs e=>?_,λb o u e=>?_,λb q e=>?_⟩
   ·rw[g3 b (Ky b n) (eB (hX YZ vh))];exact n
   ·by_cases hb:b=A.tab
    ·subst hb;exact⟨_,Lp⟩
    ·exact⟨o,hk b o hb e⟩
   ·rw[g3 b (nP _ _ e ZeM) Zga];exact e
   ·rw[g3 b (nP _ _ e ZeM) Zga];exact e
   ·by_cases hb:b=A.tab
    ·subst hb;rw[hP]at e;cases e
     exact⟨_,by rw[g1,kL]⟩
    ·exact⟨#[],by rw[g3 b hb Zga,e];simp⟩
  have I1:ZQ H1 {s with heap:=h',toks:=tk}:=I.un un1 LF;have tabs:∀Pt,Vy Pt->Tab H1 Pt:=λPt hPt=>by
   obtain⟨qs,q1,q2,q3⟩:=hPt;by_cases hb:Pt=A.tab
   ·subst hb;rw[hP]at q1;cases q1
    refine⟨iz,g1,?_,λpos cv e=>?_⟩
    ·rw[kL];simp only[af3];exact TriplesOk_snoc _ _ _ _ ht
    ·rw[kL]at e;simp only[af3]at e;rcases ar1 ht e with e|e
     ·obtain⟨d,e1,e2⟩:=acU _ _ e;ext cj
     ·exact⟨c',e,g2⟩
   ·refine⟨qs,by rw[g3 Pt hb (nC _ _ q1)];exact q1,q2,λpos cv e=>?_⟩;obtain⟨d,e1,e2⟩:=q3 pos cv e;ext cj
  have s1:Zcn:=by
   refine⟨λb o n e=>?_,λb q e=>?_,tabs⟩
   ·rw[g3 b (nP _ _ e (λq z=>by rw[z]at n;exact n)) Zga];exact e
   ·by_cases hb:b=A.tab
    ·subst hb;exact⟨_,g1⟩
    ·exact⟨q,by rw[g3 b hb Zga];exact e⟩
  have e1:(h'.push Zew).get? h'.objs.size=some Zew:=dj _ rfl;have I2:=ZqU;have j4:H1 h'.objs.size=none:=ZeZ;refine h _ _ _ I2 (s1.trans (a0 j4)) ⟨_,c',fB,au,?_⟩;rw[ax (cg g2 j4)];exact g2
def Qk(A:Ad)(te:TE):TE:=fun σ H Q=>te σ H λx H1=>∃a zs,x=.ref a/\Zqj/\H1 a=some Wn/\zs≠[]/\(∀z∈zs,sR A H1 z.1 z.2/\z.2.2.length<=7)/\∀z∈zs,∀H',V5->Q ZaI H'
abbrev KR:Expr:=match KQ with
 | .Call _ (a::_) _ _=>a
 |_=>Zhw
theorem Inv.quiet{h':Heap}{m:Zx}{t':Nat}(I:Zf)(hm:ZmB)(kG:ZyB)(k:∀b o,b≠X.env.locals->s.heap.get? b=some o->h'.get? b=some o):ZQ H {s with heap:=h',toks:=t'}:=by
 have nL:∀b u,H b=some u->b≠X.env.locals:=λb u e z=>by rw[z,I.free]at e;cases e
 refine Zuo (λb o hb _ _ e _=>k b o hb e) (λb o hb _ _ e _=>⟨o.slots,k b o hb e⟩) (λ_ _ _ _ n=>n) (λb o _ e=>?_) Zp5 Zo9 Zlz (λm2 h2=>?_) Zjj I.bare
 ·by_cases hb:b=X.env.locals
  ·subst hb;obtain⟨o',es,ep,e',_⟩:=kG;exact⟨o',e'⟩
  ·exact⟨o,k b o hb e⟩
 ·obtain⟨o1,dI,ep1,e1,d1,sk1,f1⟩:=hm;obtain⟨o2,es2,ep2,e2,d2,sk2,f2⟩:=h2;rw[e1]at e2;cases e2
  rw[d1]at d2;cases d2
  have:m=m2:=funext λx=>(f1 x).symm.trans (f2 x);rw[←this];exact kG
 ·refine(Zcj u e).lO (λd v hd q=>k d v ?_ q) Zgb λ_ _ q=>q;rcases hd with z|z
  ·rw[z];exact nL b u e
  ·exact nL d _ z
theorem ait{te:TE}{k:Nat}(T:Txt X.K X.mg A)(hr:eA k X.A)(yi:X.env.code=.ref c)(hC:ZuN)(hB:BMain X.mg X.base)(hq:Zv2)(hg:Gl X "min")(he:Zu KR te)
  (aT:starEach [KR] X.env=(false,eval KR X.env)::starEach [] X.env:=by rfl):Zu KQ (Qk A te):=by
 ext f;refine tj (rO I hg T.KJ aeq ?_ Zk Zk);refine PyProof.Rows.callWith_kw ?_ rfl rfl;refine aM ((aa he ai aT) _ pins s σ H (λvs H1=>match vs with
  |[x]=>∃a zs,x=.ref a/\Zqj/\H1 a=some Wn/\zs≠[]/\(∀z∈zs,sR A H1 z.1 z.2/\z.2.2.length<=7)/\∀z∈zs,∀H',V5->Q ZaI H'
  |_=>False) I h) λus s1 ⟨vs,H1,I1,r1,q1⟩=>?_
 match vs,r1,q1 with
 |[x],r1,⟨a,zs,ex,hT,ha,aK,hz,hQ⟩=>
 subst ex;obtain⟨u,rfl,ru⟩:=o6 r1;cases ru
 refine wpAny_evalAll_cons (aj (alD yi hC hB hq I1 hT λf H2 s2 I2 cD hL=>aj (Cy (aL (wpAny_evalAll_nil ?_)))));have jF:=cD.at ha;obtain⟨m,F⟩:=I2.fr;obtain⟨its,rv,pl,hlz⟩:=I2.list Zkw;have hlen:=rv.length;rw[fT]at hlen;have nL:∀b u,H2 b=some u->b≠X.env.locals:=λb u e z=>by rw[z,I2.free]at e;cases e
 have Lb:∀(h:Heap) (own:Zv),Zxc h m->News X.base X.env.locals h (BP X.base s2.heap X.env.locals++own)->∀b o,b≠X.env.locals->s2.heap.get? b=some o->h.get? b=some o:=λh own Fh Nh b o hb e=>by
  cases q:X.base.get? b with
  |some u=>
   have:=I2.bk b u q;rw[e]at this;cases this
   exact Fh.keep b _ q
  |none=>exact(Nh (b,o) (mz _ (ak5 hb q e))).1
 obtain⟨oa,ea,A2⟩:=pl.isList;show Yt (call Zn2 [.ref a] [(Str.ofString "key",Yo)]) Yy X.xe s2;refine kmk_min (vs:=its) (news:=BP X.base s2.heap X.env.locals) (λi=>((zs[i]?).map λz=>(z.2.2.length:Int)).getD 0) hr.hd F akK (λh Fh Nh=>⟨oa,Lb h [] Fh (by rw[fc];exact Nh) a oa (nL _ _ jF) ea,A2⟩) ?_ (λi v hv h tk own Fh Nh=>?_) (λi v h' tk' hv _ Fh Nh=>?_)
 ·rw[←hlen];exact sX.mpr aK
 ·obtain⟨z,l_,eV⟩:∃z,zs[i]? =some z/\v=.ref z.1:=by
   have hi:i<zs.length:=by have:=(iQ.mp hv).1;omega
   ext bL
   cases ru
   rfl
  subst eV;have cO:=bI l_;obtain⟨⟨dx,ls,lp,p1,p2,p3⟩,p4⟩:=hz z cO;replace p1:=cD.at p1;replace p3:=cD.at p3;obtain⟨mA,O,rF,_,_,A1⟩:=Lg I2.aC p1;obtain⟨pm,c',fB,hf,fI⟩:=hL;have hk:=Lb h own Fh Nh;obtain⟨itp,rp,plp,nj⟩:=I2.list (ag.of p3);have acD:=rp.length;rw[bA]at acD;obtain⟨oL,eL,vb⟩:=plp.isList;have hkf:((zs[i]?).map λz=>(z.2.2.length:Int)).getD 0=(itp.toArray.size:Int):=by rw[l_,dR,←acD];rfl
  obtain⟨u,hu,ru⟩:=jL.some_of (v:=V.ref lp) (o:=mA "persons") (by have:=rF "persons";rw[D_]at this;exact this)
  cases ru
  obtain⟨mb,jE,oF⟩:=I2.mod.blt;have vi:s2.heap.get? f=some (oo pm c' fB):=(I2.aC _ _ hf).1;have sv:s2.heap.CodeRec (.ref c') rP:=(I2.aC _ _ fI).1;refine gL (alE (s:={s2 with heap:=h,toks:=tk}) (I2.mod.xM.keeps Fh.keep) (I2.mod.glob.keeps Fh.keep) (jE.keeps Fh.keep) ((oF "len" Zk).trans cU) T.cM (I2.mod.nolimit.keeps Fh.keep)
   (hk _ _ (nL _ _ hf) vi) (ad3 _ _ sv λo e=>hk _ _ (nL _ _ fI) e) (by have:=hr.dp;show X.A.depth<recursionLimit;omega) ⟨hk _ _ (nL _ _ p1) O.obj,O.ns.at λo e=>hk _ _ (nL _ _ A1) e,O.ne⟩ T.oM Zyo hu
   (its:=itp.toArray) ⟨oL,hk _ _ (nL _ _ p3) eL,vb⟩ (by rw[dR];omega)) (λv' s' cF=>?_) λ_ _ hF=>hF
  obtain⟨h2,tk2,t2,rfl,rfl,vf⟩:=cF;rw[←hkf];refine⟨h2,tk2,t2,rfl,rfl,⟨Fh.ns.keeps vf,λb o e=>vf b o (Fh.keep b o e),Fh.above⟩,λp hp=>⟨vf _ _ (Nh p hp).1,(Nh p hp).2⟩⟩
 ·obtain⟨z,l_,eV⟩:∃z,zs[i]? =some z/\v=.ref z.1:=by
   have hi:i<zs.length:=by have:=(iQ.mp hv).1;omega
   ext bL
   cases ru
   rfl
  subst eV;refine⟨ZaI,H2,Inv.quiet I2 F.ns Fh.ns (Lb h' [] Fh (by rw[fc];exact Nh)),rfl,hQ z (bI l_) H2 cD⟩
end
end
section
open Vbwbal (signer load goesWith fits unsigned)
abbrev afg:Zc:=["plan","options","rooms","parts","steps"]
theorem SW:aV afg GQ (aA DC):=Zl
theorem ahO{rm:ZK}{x n:Nat}(h:x<rm.length):dk (rm.set x (YY x-(n:Int)))=lZ YY x n:=by
 funext y;unfold dk lZ;ext u
 ·ext x;simp[jN,h]
 ·rw[ae e];simp[jN,Cq Zgc]
section
variable {α:Type}{K:PySem.W.Frag}{a:Addr}{xs:Ze}{zs:ZN}{g:TG}{tt:TT}{te:TE}{vs:Za}{σ:L2.St}{H1:Hp}{Q:VK}
theorem alB(hx:UA)(he:Ziq)(hlen:Ze3)(G:Addr->Hp->Addr->α->Prop)
  (gs:∀D H H' r z,Zd->G D H r z->G D H' r z) (gp:∀D H r z acc,G D H r z->G D (ZH D (.lst acc)) r z)
  (hy:∀(i:Nat) x z H D acc,xs[i]? =some x->zs[i]? =some z->V9->H1 D=none->H D=some (.lst acc)->∀(R:ZpF) (S:ZgC),(∀p H',Zd->G D H' p z->R Z6 H')->
   g x (wipe σ vs) H fun σ2 H2=>wipe σ2 vs=wipe σ vs/\tt σ2 H2 λb H3=>if b=true then te σ2 H3 R else S H3)
  (q:∀D H',H1 D=none->V5->(∃ys:List Zid,H' D=some Zn4/\ys.map Z1=zs/\∀y∈ys,G D H' y.1 y.2)->ZdS):
  oX ZdO g tt te vs σ Q H1:=by
 intro D hD;refine Zn6 (λi H=>YH H/\∃ys:List Zid,H D=some Zn4/\ys.map Z1=zs.take i/\∀y∈ys,G D H y.1 y.2) ⟨a0 hD,[],au,Zh,λr hr=>Zji⟩ (λi H hi p=>?_) ZtT ?_ ZqN
 ·ext ag;exact Zxy
 ·rintro i x H H' hi ⟨s1,ys,hd,hp,hG⟩ y;ext W;ext cM;refine hy i x z _ D _ ju hz s1 hD hd _ _ λp H2 s2 dP=>?_;have hsz:=sz;have jt:ys.length<=i:=by have:=Zaw hp;rw[aq,eY]at this;omega
  refine⟨refs ys,ZgA,Zi3,bV XJ hD (gf ZgA),ys++[(p,z)],?_,?_,λr hr=>?_⟩
  ·rw[au,qU];rfl
  ·rw[dA hz,cA,hp];rfl
  ·refine gp _ _ _ _ _ ?_;rcases b8.mp hr with h|h
   ·exact gs _ _ _ _ _ s2 (hG r h)
   ·rw[bo.mp h];exact dP
 ·obtain⟨s1,ys,hd,hp,hG⟩:=p;rw[eg]at hp;exact q D H hD s1 ⟨ys,hd,hp,hG⟩
end
def C7(A:Ad)(n:Nat):Sp:=λvs H Q _=>∃(p a r:Addr) (i:aW) (P:Plan) (ps:Xu) (rm:ZK),vs=[.ref p,.ref a,.ref r]/\Y4/\ZF/\ZkF/\y4 A H a ps/\ps.length<=n/\n<=7/\
 zh P ps YY/\(∀q∈ps,q.1.length<=7/\q.2.length<=7/\∀y∈q.2,y<rm.length)/\(∀x,0<=YY x)/\H r=some ZcK/\rm.length<=7/\
 ∀(H':Hp) (b:Bool),Zd->(b=true↔W5 Zd9 YY)->Q WA H'
def Rl(A:Ad)(n:Nat):Sp:=λvs H Q _=>∃(p d r:Addr) (i:aW) (P:Plan) (o:cz) (rm:ZK),vs=[.ref p,.ref d,.ref r]/\Y4/\ZF/\ZkF/\Za0/\(keys o).Nodup /\o.length<=n/\n<=7/\
 (∀q∈o,q.2.length<=7/\∀y∈q.2,y<rm.length)/\(∀q∈o,∀y∈q.2,0<YY y)/\(∀x,0<=YY x)/\H r=some ZcK/\rm.length<=7/\
 ∀(H':Hp) (b:Bool),Zd->(b=true↔W5 o YY)->Q WA H'
section
variable {P:Program}{w:World}{K:PySem.W.Frag}{mg:Zx}{base:Heap}{A:Ad}
theorem aS.okC{x qual:Str}{st:Stmt}{f:Addr}{fd:FuncData}{N ps:Zc}{k:Nat}{sp:Sp}(F:ZiZ fd)(S:aV N ps Zd7)(len:Zlm)
  (Bf:∀(B:Around) (outer:WZ) (s:Shared) (H:Hp) (vs:Ze) (Q:VK) (E:XK),eA k (B.deeper (Zs2 fd.code))->Zdw->
   ∃t,jb (sJ aQ P w K mg base N qual (aA st) f fd.code B outer s H E).mY (oK st) t/\t {nx:=λ_ H'=>Q .ba H',rt:=Q} (start N vs) H):aO P w K mg base aQ (k+1) f fd ps sp:=by
 ext aZ;refine adn lk lB S len λB outer s H vs Q E hr ow=>?_;obtain⟨t,h,q⟩:=Bf B outer s H vs Q E hr ow;exact⟨t,h.mY,q⟩
theorem akc{f c:Addr}{fd:FuncData}(T:Zm)(ML:Zw "parts_behind" Gw 3 (QY A))(F:Zo "can_fill_parts" "can_fill_parts" zZ f fd)
  (r_:mg "can_fill_parts"=some Yo) (hb:UE vZ []) (yi:fd.code=.ref c) (hC:Zh8 A.tab) (hB:Zjl):∀n,Y2 (4+n) f fd vZ (C7 A n):=by
 have nd:=IP.nd;ext a0;intro n
 induction n with
 |zero=>
  refine aS.okC (k:=3) F IP Zj ZtZ
  ·ext dq
  ·obtain⟨p,a,r,ix,P,ps,rm,rfl,hP,wf,hT,⟨zs,ha,i9,js⟩,pT,hn7,ok,jz,gm,jw,fG,k⟩:=h;refine⟨_,ao Zua ah5,?_⟩;have ho:ps=[]:=Cp.mp Zb;subst ho;have hz0:zs=[]:=O7.mp i9.symm;subst hz0;ext a;refine⟨false,Znc,?_⟩;simp! [wD];exact ZrD
 |succ n ih=>
  have Bp:ZmD (4+n) (C7 A n):=⟨f,fd,ih,r_,F.kp,hb⟩;refine aS.okC (k:=4+n) F IP Zj ZtZ
  ·ext dq
  ·have amW:=λte=>ait (A:=A) (c:=c) (te:=te) (X:=(sJ aQ P w K mg base aff "can_fill_parts" (aA zZ) f fd.code B outer s H E).mY) T hr yi hC hB rfl rfl;obtain⟨p,a,r,ix,P,ps,rm,rfl,hP,wf,hT,hPs,pT,hn7,ok,jz,gm,jw,fG,k⟩:=h;have hsz:=sz;refine⟨_,(ao Zua
   (ao (XW (amW _ ZC))
   (ao (dN dF rfl (ZS (aD K ZG rfl)) VM (ao (Zeh (xo (arl K) Vo T.KL aer Xm))
   (ao (aia VZ YB (anT K) (XI (aa (aD K ZG rfl) ai)) al6 set_list)
   (ak (bg (ck K (az Bp hr rfl (aa (pv 0) (aa (az ML hr rfl (aa (pv 0) (aa (pv 1) (aa (pv 3) (aa (pv 4) (aa (bj (bF K) (pv 5) (pv 4) (λ_ _=>rfl)) ai)))))) (aa (pv 5) ai)))) (λ_=>rfl)) (ak (ay kh)) bp)))))
   (ak (ay kh))))),?_⟩
   obtain⟨zs,ha,i9,js⟩:=id hPs;by_cases LJ:zs=[]
   ·subst LJ;ext a;refine⟨false,Znc,?_⟩;simp! [wD];rw[wj]at i9;subst i9;exact ZrD
   ·have nq:(refs zs).isEmpty =false:=by
     cases zs with
     |nil=>exact absurd rfl LJ
     |cons a b=>rfl
    ext a;refine⟨true,.inl ⟨_,Xe,by rw[nq];rfl⟩,?_⟩;simp! [qA,Qk];have hzq:∀z∈zs,z.2∈ps:=λz hz=>by rw[i9];exact Zbh
    refine⟨hT,zs,ha,LJ,λz hz=>⟨js z hz,(jz _ (hzq z hz)).2.1⟩,λz hz H0 s0=>?_⟩;obtain⟨zdx,oZ,zB,z1,z2,z3⟩:=(js z hz).same s0;obtain⟨q,hq⟩:∃q,q=z.2:=Zs;have AW:q∈ps:=by rw[hq];exact hzq z hz
    rw[←hq]at z2 z3;have xW:=jz q AW;have sstep:=ah6 ok gm AW;simp! [z1,T.oM,n2,D_];obtain⟨Pv,aB⟩:∃Pv:Nat->L2.St->Hp->Prop,∀m σ H',YG H'↔∃(v4 v5:ZM),σ=[some Z6,some ZX,some Yl,some ZaI,v4,v5]/\ah H0 H'/\∀x∈q.2.take m,¬W5 (jU (ZbC Zmm)) (lZ YY x q.1.length):=Ye;refine⟨⟨_,ag.of z3⟩,gH (nats q.2) Pv ((Zi _).mpr ⟨none,none,rfl,ah.refl H0,λx hx=>by simp at hx⟩) (λi σ H' _ hv=>let⟨_,_,_,s2,_⟩:=(Zi _).mp hv;ag.of (s2.at z3)) ?_ ?_⟩
    ·ext O;ext de;ext bx;have ot:x∈q.2:=bI hx;have ku:=xW.2.2 x ot;have ER:=ok.room q AW x ot;have DT:=s0.trans s2;have PN:=s2.at z1;ext a;refine⟨_,.inl (ag.of (DT.at jw)),λl2 bH=>?_⟩;have g1:YM l2 ZcK l2=some ZcK:=au;have Tu:Xw (YM l2 ZcK):=a0 bH;have PM:=Tu.at PN;simp! [PM,T.oM,n1,uE];obtain⟨nY,NA⟩:∃nY,nY=rm.set x Zmm:=Zs;have amy:nY.length=rm.length:=by rw[NA,afu]
     have FP:dk nY=lZ YY x q.1.length:=by rw[NA];exact ahO ku
     have e0:dk nY x=YY x-(q.1.length:Int):=by rw[FP];unfold lZ;rw[af rfl]
     have ap7:(rm.map V.int).set x (V.int (YY x-((nats q.1).length :Int)))=nY.map V.int:=by rw[NA,List.map_set,bA]
     refine⟨_,ag.of g1,_,JW ku,_,.inl ⟨_,ag.of (Tu.at (s2.at z2)),rfl⟩,_,rfl,x,EI (by rw[aq];exact ku),?_⟩;rw[ap7];have s3:Xw (YM l2 ZmS):=a0 bH;have g2:YM l2 ZmS l2=some ZmS:=au;have xh:=DT.trans s3;refine⟨_,ag.of g2,_,bQ (JW Zb),p,a,z.1,ix,P,ps,q,x,_,rfl,hP.same xh,wf,hPs.same xh,?_,Zb,λq' cF=>⟨(jz q' cF).1,(jz q' cF).2.1⟩,xW.1,λH4 a4 s4 ave Bg=>?_⟩
     ·rw[hq];exact(js z hz).same xh
     rw[e0]at Bg;have jS:=xh.trans s4;have hlb:(ZbC Zmm).length <ps.length:=by unfold iN;rw[aq];exact List.length_filter_lt_length_iff_exists.mpr ⟨q,AW,Zh⟩
     refine⟨p,a4,l2,ix,P,_,nY,rfl,hP.same jS,wf,jS.tab _ hT,Bg,Zb,Zb,?_,λq' cF=>?_,?_,s4.at g2,Zb,λH5 b s5 hb=>?_⟩
     ·rw[FP];exact ok.behind AW x
     ·obtain⟨r',iG,rfl⟩:=aN.mp cF;obtain⟨gS,_⟩:=bD.mp iG;have h7:=jz r' gS;refine⟨h7.1,?_,λy hy=>?_⟩
      ·ext i;split
       ·exact WO h7.2.1
       ·exact h7.2.1
      ·rw[amy];dsimp only at hy;split at hy
       ·exact h7.2.2 y (bD.mp hy).1
       ·exact h7.2.2 y hy
     ·rw[FP];exact alu gm ER
     ·rw[FP]at hb;refine Zqa;cases b with
      |true=>exact aI (k H5 true (jS.trans s5) ⟨λ_=>sstep.mpr ⟨x,ot,hb.mp rfl⟩,λ_=>rfl⟩)
      |false=>
       refine aF ((Zi _).mpr ⟨_,_,rfl,((s2.trans s3).trans s4).trans s5,λy hy=>?_⟩);rw[dA hx]at hy;rcases b8.mp hy with h|h
       ·exact gD y h
       ·rw[bo]at h;subst h;exact λq=>absurd (hb.mpr q) Zh
    ·ext R;ext de;ext a;refine k H' false (s0.trans s2) ⟨λh=>Ve,λh=>?_⟩;obtain⟨x,hx,hs⟩:=sstep.mp h;refine absurd hs (gD x ?_);rw[bA,eg];exact hx
theorem akd{f:Addr}{fd:FuncData}(T:Zm)(M8:Zw "alike_steps" GZ 2 (Rt A))(MM:Zw "part_of" Gy 3 (Q0 A))(Bp:ZmD 11 (C7 A 7))
  (F:Zo "can_fill" "can_fill" DC f fd):Y2 12 f fd GQ (Rl A 7):=by
 have nd:=SW.nd;refine F.ok SW Zj Zn
 ·obtain⟨p,d,r,i,P,o,rm,rfl,_⟩:=h;rfl
 ·obtain⟨p,d,r,ix,P,o,rm,rfl,hP,wf,hT,hO,gn,pT,_,cC,E1,gm,jw,fG,k⟩:=h;ext j;have aK:∀y∈P.alike,y.1≠y.2:=λy hy=>VY ZiH;have G:=Fx aK XU;have sk:(keys o).length <=7:=by unfold keys;rw[aq];exact pT
  refine⟨_,(ao (pC 3 (own:=[("steps",4)]) rfl nd (ZS (az M8 hr rfl (ZL (aa (xo (ark rfl) Vo T.KL aer Wr) ai)))) (show cB afg (aA DC) _ _ from Yf) ZcD Xc (λ_ _ _ _ _=>(az MM hr rfl (ZL (Xi (X2 ZaD))))))
   (ak (ay (az Bp hr rfl (aa (pv 0) (aa (pv 3) (aa (pv 2) ai))))))),?_⟩
  obtain⟨kvs,hd,eU⟩:=id hO;ext a;refine⟨kvs,hd,λl hl=>?_⟩;rw[aaE eU];have s1:Z8 (WE (.lst (nats XU))):=a0 hl;refine⟨p,l,ix,P,XU,rfl,ZbP,wf,au,sk,λH2 l2 s2 LU r8=>?_⟩;obtain⟨zs,bH,i9,js⟩:=r8.zip;ext C;have cE:zs.length<=7:=by have:=G.len;rw[i9,aq]at this;omega
  have l_:∀z∈zs,z.2∈kN P XU:=λz hz=>by rw[i9];exact Zbh
  have acr:∀L∈kN P XU,L.length<=7:=λL hL=>by have h1:=K7 _ L hL;rw[G.perm.length_eq]at h1;omega
  refine⟨l2,rfl,⟨_,Zku⟩,alB (zs:=zs) Zku (fT _) Zb (λD H r z=>qm A D H r (ZbQ z.2)/\r≠D) (λD H H' r z s h=>⟨h.1.same s,h.2⟩)
   (λD H r z acc h=>⟨?_,h.2⟩) (λi x z H3 D acc hx hz s3 hD0 hD R S hR=>?_) (λD H3 hD s3 i6=>?_)⟩
  ·obtain⟨⟨dx,ls,lp,e1,e2,e3,e4,e5⟩,aK⟩:=h;exact⟨dx,ls,lp,by rw[ax aK];exact e1,ZxR,ZxS,e4,e5⟩
  ·obtain⟨z',br,rfl⟩:=qT hx;ext P
   have cO:=Xv;have u5:=l_ z cO;have cG:=Zdq;ext a;refine⟨p,d,r,z.1,ix,P,o,rm,z.2,rfl,hP.same cG,wf,hO.same cG,gn,cC,cG.at jw,s3.at (js z cO),G.ne _ u5,λt ht=>G.perm.mem_iff.mp (sW.mpr ⟨_,u5,ht⟩),acr _ u5,λH4 l4 s4 oA r9=>?_⟩;obtain⟨dx,lp,e1,e2,e3,e4⟩:=r9;refine hR l4 H4 s4 ⟨⟨dx,z.1,lp,e1,e2,e3,cg (js z cO) hD0,λe=>?_⟩,λe=>?_⟩
   ·rw[e,hD]at e4;cases e4
   ·rw[e,hD]at oA;cases oA
  ·obtain⟨ys,yw,qh,hG3⟩:=i6;have cG:=Zdq;have kL:partsOf P o YY=(ys.map λy=>(y.1,ZbQ y.2.2)).map Z1:=by unfold partsOf;rw[bz,i9,←qh,bz,bz];rfl
   refine⟨p,D,r,ix,P,partsOf P o YY,rm,rfl,hP.same cG,wf,cG.tab _ hT,⟨ys.map λy=>(y.1,ZbQ y.2.2),?_,kL,λz hz=>?_⟩,?_,ZA,aid aK gn _,λq hq=>?_,gm,cG.at jw,fG,λH' b s' hb=>k H' b (cG.trans s') (hb.trans (ahK aK gn _).symm)⟩
   ·rw[yw];unfold refs;rw[bz];rfl
   ·obtain⟨y,hy,rfl⟩:=aN.mp hz;exact(hG3 y hy).1.part
   ·unfold partsOf;rw[aq];exact cq G.len sk
   ·obtain⟨L,hL,rfl⟩:=aN.mp hq;have iI:∀x∈(ZbQ L).2,∃st∈L,x∈Y1 st:=λx hx=>by have h1:=(Er ZbL).mp hx;obtain⟨st,aT⟩:=afH _ ZbL;exact⟨st,aT,h1.2.2 st aT⟩
    have acJ:∀st∈L,(st,Y1 st)∈o:=λst aT=>Eb (G.perm.mem_iff.mp (sW.mpr ⟨L,hL,aT⟩));refine⟨acr L hL,?_,λy hy=>?_⟩
    ·unfold jm;ext i;split
     ·exact ZI
     ·refine WO (WO ?_);refine(cC _ (acJ (L.headD 0) ?_)).1;cases hL0:L with
      |nil=>exact absurd hL0 ZbL
      |cons a b=>exact aY
    ·obtain⟨st,aT,hx⟩:=iI y hy;exact(cC _ (acJ st aT)).2 y hx
end
end
section
open Vbwbal (signer load goesWith fits unsigned complete canEnd completion choose subsets)
abbrev afd:Zc:=["record","options","rooms","person"]
theorem SN:aV afd sS (aA DA):=Zl
abbrev as9:Zc:=["record"]
theorem SY:aV as9 v_ (aA JK):=Zl
abbrev as8:Zc:=["record","step","person"]
theorem SX:aV as8 GR (aA JJ):=Zl
abbrev O3:Zc:=["record","options","step","fitting","person"]
theorem SM:aV O3 GK (aA zY):=Zl
abbrev asR:Zc:=["choices","members","longer","choice","member"]
theorem Sn:aV asR GC (aA Jt):=Zl
abbrev as7:Zc:=["members","found","level"]
theorem SU:aV as7 zc (aA JI):=Zl
abbrev as4:Zc:=["record","options","steps"]
theorem SQ:aV as4 GN (aA JF):=Zl
abbrev asS:Zc:=["record","options","persons"]
theorem So:aV asS GD (aA Ju):=Zl
theorem aln{P:Plan}{c:Choice}(wc:Xj){x:Nat}(h:P.persons.length<=x):Yx x=0:=by have:=wc.room x;rw[Cr Zb]at this;exact Nat.le_zero.mp this
theorem JX{P:Plan}{c:Choice}(wc:Xj):dk ((List.range P.persons.length).map Xh)=eD P c:=by
 funext x;unfold dk;rw[jN,cx];by_cases h:x<P.persons.length
 ·rw[zm h];rfl
 ·rw[Cr (by rw[eM];omega)];have h1:=aln wc (x:=x) Zb;have h2:YE x=0:=by unfold cy;rw[Cr Zb];rfl
  show(0 :Int)=(cy P x:Int)-(load c x:Int);rw[h1,h2];rfl
structure wb(P:Plan)(c:Choice)(o:cz):Prop where
 nd:(keys o).Nodup
 len:o.length<=7
 rows:∀q∈o,q.2.length<=7
 Kj:∀q∈o,∀y∈q.2,y<P.persons.length/\Yx y<YE y
def wX(A:Ad):Sp:=λvs H Q _=>∃(r d:Addr) (i:bC) (j:aW) (P:Plan) (ab:Za) (c:Choice) (o:cz),vs=[.ref r,.ref d]/\YI/\ZF/\Xj/\Za0/\Zcv o/\
 ∀(H':Hp) (b:Bool),Zd->(b=true↔W5 o Xh)->Q WA H'
def zO(A:Ad):Sp:=λvs H Q _=>∃(r:Addr) (i:bC) (j:aW) (P:Plan) (ab:Za) (c:Choice),vs=[.ref r]/\YI/\ZF/\Xj/\
 ∀(H':Hp),Zd->Q (.bl (Zcm c)) H'
def Rm(A:Ad):Sp:=λvs H Q _=>∃(r:Addr) (i:bC) (j:aW) (P:Plan) (ab:Za) (c:Choice) (s x:Nat),vs=[.ref r,nat s,nat x]/\YI/\ZF/\Xj/\s<P.steps.length/\ZW s=none/\x<P.persons.length/\YO x=true/\
 ∀(H':Hp),Zd->Q (.bl (Zcm Yi)) H'
theorem ar9{P:Plan}{ab:Za}{c:Choice}{s y:Nat}(h:y∈ZJ s):y<P.persons.length/\Yx y<YE y:=by unfold bR at h;obtain⟨h1,h2⟩:=bD.mp h;rw[aP]at h2;exact⟨dS.mp h1,((Zd0 y).mp h2.2).2.2⟩
theorem Ea{P:Plan}(wf:ZF)(ab:Za)(q:VF){l:Za}(c:Choice)(hn:l.Nodup)(hl:l.length<=7):Zcv ZjL:=by
 refine⟨by rw[uT];exact hn,by unfold fq;rw[aq];exact hl,λp hp=>?_,λp hp y hy=>?_⟩
 ·ext bl;exact WO (cq (aby P ab c t) wf.persons)
 ·ext bl;exact ar9 (bD.mp hy).1
theorem xt(P:Plan)(ab:Za)(l:Za)(c:Choice):Wd Zbp l c=l.map λt=>(t,ZJ t):=by unfold fq;refine gv λt _=>?_;rw[filter_all]
theorem zD{P:Plan}(wf:ZF):∀y,y∈P.unlike∨y∈P.alike->y.1≠y.2:=λy hy=>VY (hy.elim (λh=>ZdP) (λh=>.inr Vq))
theorem zF{P:Plan}{c:Choice}:∀s∈Z9 c,ZW s=none:=λs hs=>(xF.mp hs).2
theorem HV{P:Plan}(wf:ZF)(c:Choice):(Z9 c).length <=7:=cq (Eu P c) wf.steps
theorem Tq{P:Plan}{ab:Za}{c:Choice}(wf:ZF)(wc:Xj):W5 XM Xh↔Zcm c=true:=by have:=ZnB Z7 c Vr zF wc.room;rw[xt,yQ]at this;exact this
theorem xw{P:Plan}(wf:ZF)(ab:Za)(c:Choice):Zcv XM:=by have:=Ea wf ab Zbp c Vr (HV wf c);rw[xt]at this;exact this
theorem BL{b:Bool}{p:Prop}{c:Bool}(h:b=true↔p)(hp:p↔c=true):b=c:=by rw[iS];exact h.trans hp
theorem ahL{P:Plan}{ab:Za}{c:Choice}{s x:Nat}(wf:ZF)(wc:Xj)(hs:s∈Z9 c)(hg:YO x=true):W5 Zjv Xh↔Zcm Yi=true:=by
 have hx:Yx x<YE x:=((Zd0 x).mp hg).2.2;have fX:=zF s hs;have hk:keys Zjv=Z9 c:=by
  rw[←xN P ab c];unfold keys kJ;rw[bz];refine gv λp _=>?_;show(if p.1=s then(s,[x])else p).1=p.1;by_cases e:p.1=s
  ·rw[af e,e]
  ·rw[ae e]
 have hm:(s,[x])∈kJ XM s x:=aN.mpr ⟨(s,ZJ s),aN.mpr ⟨s,hs,rfl⟩,af rfl⟩;have h0:∀y,0<=Xh y:=λy=>by have:Yx y<=YE y:=wc.room y;unfold eD;omega
 rw[To P _ _ (by rw[hk];exact Vr) (zD wf) hm (λy hy=>by rw[bo]at hy;subst hy;unfold eD;omega) h0]
 have eb:behind P Zjv s x (decide (Xh x-1=0))=UW Yi:=by
  have e1:behind P Zjv s x (decide (Xh x-1=0))=behind P XM s x (decide (Xh x-1=0)):=by
   unfold behind kJ;rw[wm,bz];have e2:((λp:Nat×List Nat=>p.1 != s)∘λp=>if p.1=s then(s,[x])else p)=λp:Nat×List Nat=>p.1 != s:=by
    funext p;show((if p.1=s then(s,[x])else p).1 != s)=(p.1 != s);by_cases e:p.1=s
    ·rw[af e,e]
    ·rw[ae e]
   rw[e2];refine gv λp hp=>?_;have:p.1≠s:=by simpa using(bD.mp hp).2
   show _=(p.1,pL P s x _ p.1 p.2);simp only[Function.comp,ae this]
  have e3:=aek (P:=P) (ab:=ab) (q:=λ_ _=>true) (l:=Z7) fX hx;rw[xt,xt,←agx P c s x fX]at e3;rw[e1];exact e3
 have fI:∀y,load Yi y<=YE y:=λy=>by
  rw[rL];have:Yx y<=YE y:=wc.room y;by_cases e:x=y
  ·ext x;omega
  ·rw[ae e];omega
 have h2:=ZnB (Z9 Yi) Yi (lX P _) zF fI;rw[xt,yQ]at h2;ext b
 ·rintro⟨y,hy,h⟩;rw[bo]at hy;subst hy;rw[eb,←JV P c s y]at h;exact h2.mp h
 ·intro h;refine⟨x,bo.mpr rfl,?_⟩;rw[eb,←JV P c s x];exact h2.mpr h
theorem anR{P:Plan}{ab:Za}{c:Choice}{s x:Nat}(wf:ZF)(hx:Ziv)(hl:ZjF){o:cz}(ok:Zcv o):Zcv (kJ o s x):=by
 refine⟨?_,by unfold kJ;rw[aq];exact ok.len,λp hp=>?_,λp hp y hy=>?_⟩
 ·have:keys (kJ o s x)=keys o:=by
   unfold keys kJ;rw[bz];refine gv λp _=>?_;show(if p.1=s then(s,[x])else p).1=p.1;by_cases e:p.1=s
   ·rw[af e,e]
   ·rw[ae e]
  rw[this];exact ok.nd
 ·ext aw;by_cases e:q.1=s
  ·rw[af e];show 1<=7;decide
  ·rw[ae e];exact ok.rows q hq
 ·ext aw;by_cases e:q.1=s
  ·rw[af e]at hy;rw[bo.mp hy];exact⟨hx,hl⟩
  ·rw[ae e]at hy;exact ZqL hy
section
variable {P:Program}{w:World}{K:PySem.W.Frag}{mg:Zx}{base:Heap}{A:Ad}
theorem aj3{f:Addr}{fd:FuncData}(T:Zm)(p9:Zml)(M1:Zw "can_fill" GQ 12 (Rl A 7))(F:Zo "fillable" "fillable" DA f fd):Y2 13 f fd sS (wX A):=by
 have nd:=SN.nd;refine F.ok SN Zj Zn
 ·obtain⟨r,d,i,j,P,ab,c,o,rfl,_⟩:=h;rfl
 ·obtain⟨r,d,i,j,P,ab,c,o,rfl,hR,wf,wc,hO,ok,k⟩:=h;ext aL;refine⟨_,(ao (pC 2 (own:=[("person",3)]) rfl nd Zsr (show cB afd (aA DA) _ _ from Yf) Zis Xc (λ_ _ _ _ _=>(az p9 hr rfl (ZL X7))))
   (ak (ay (az M1 hr rfl (aa (aD K (pv 0) rfl) (aa (pv 1) (aa (pv 2) ai))))))),?_⟩
  ext aQ;refine ZtI;rw[mE];refine ZuU Y9 (λx=>.int (Xh x)) ZuI W9
  ·ext a;exact⟨r,i,j,P,ab,c,x,rfl,XA,wc,hx,bc rfl _ ZU⟩
  ·ext F;have fK:=XA;simp! [fK.ins,T.dD,n1,lQ];have jw:H' D=some (.lst (((List.range P.persons.length).map Xh).map V.int)):=by rw[h,bz];rfl
   refine⟨i.p,d,D,j,P,o,_,rfl,fK.plan,wf,fK.tab,hO.same s1,ok.nd,ok.len,ZA,λq hq=>⟨ok.rows q hq,λy hy=>?_⟩,?_,?_,jw,by rw[aq,eM];exact E7,λH2 b s2 hb=>?_⟩
   ·rw[aq,eM];exact(ZqL hy).1
   ·rw[JX wc];intro q hq y hy;have:=(ZqL hy).2;unfold eD;omega
   ·rw[JX wc];intro x;have:Yx x<=YE x:=wc.room x;unfold eD;omega
   ·rw[JX wc]at hb;exact k H2 b XJ hb
theorem akf{f:Addr}{fd:FuncData}(T:Zm)(iK:ZcA)(j8:ZeO)(F:Zo "can_be_ended" "can_be_ended" JK f fd):Zf3 v_ (zO A):=by
 have nd:=SY.nd;refine F.ok SY Zj Zn
 ·ext L
 ·ext a4;refine⟨_,(ak (ay (az j8 hr rfl (ZL (aa Zld ai))))),?_⟩;ext ab;refine⟨r,d,i,j,P,ab,c,_,rfl,XA,wf,wc,hO,Zg5 c,λH2 b s2 hb=>?_⟩;rw[BL hb (Tq wf wc)];exact k H2 XJ
theorem ake{f:Addr}{fd:FuncData}(T:Zm)(iK:ZcA)(vy:Zw "given" B5 1 ID)(j8:ZeO)
  (F:Zo "can_be_ended_with" "can_be_ended_with" JJ f fd):Zf3 GR (Rm A):=by
 have nd:=SX.nd;refine F.ok SX Zj Zn
 ·ext dk
 ·obtain⟨r,i,j,P,ab,c,st,x,rfl,hR,wf,wc,aT,fX,hx,hg,k⟩:=h;refine⟨_,(ak (ay (az j8 hr rfl (ZL (aa (az vy hr rfl (aa Zld (Xi Xm))) ai))))),?_⟩;have hsu:st∈Z9 c:=xF.mpr ⟨aT,fX⟩;ext ab;refine⟨d,_,st,x,rfl,hO,by rw[xN];exact hsu,(Zg5 c).len,λH2 d2 s2 avc yq=>?_⟩;ext C;refine⟨r,d2,i,j,P,ab,c,_,rfl,hR.same cD,wf,wc,yq,anR (ab:=ab) wf hx ((nv P c st x).mp hg).2.2 (Zg5 c),λH3 b s3 hb=>?_⟩;rw[BL hb (ahL wf wc hsu hg)];exact k H3 Zdq
end
end
section
open Vbwbal (signer load goesWith fits unsigned complete canEnd completion choose subsets)
theorem adu{x:Nat}:∀{l:Za},l.Nodup->x∈l->l.filter ZqP=[x]
 |a::r,hn,hm=>by
  ext t;rw[jf];by_cases e:a=x
  ·subst e;rw[af Zh];congr 1;refine List.filter_eq_nil_iff.mpr λy hy=>?_;have:¬y=a:=λq=>h1 (q▸hy);simpa using this
  ·rw[ae Znw];exact adu h2 ((aJ.mp hm).resolve_left λq=>UC)
theorem akG(P:Plan)(ab:Za)(c:Choice)(s:Nat):(ZJ s).Nodup :=aft.filter _
theorem adq{P:Plan}{ab:Za}{c w:Choice}{t x:Nat}(h:XC t=some x)(hx:x∈ZJ t):(ZJ t).filter (c8 w t)=[x]:=by
 have:c8 w t=λy=>y==x:=by funext y;unfold c8;rw[h]
 rw[this];exact adu (akG P ab c t) hx
theorem ads{P:Plan}{ab:Za}{c w:Choice}{t:Nat}(h:XC t=none):(ZJ t).filter (c8 w t)=ZJ t:=by
 have:c8 w t=λ_=>true:=by funext y;unfold c8;rw[h]
 rw[this];exact filter_all _
theorem ac3{P:Plan}{ab:Za}{c w:Choice}{s x:Nat}{l:Za}(h:XC s=none)(hx:x∈ZJ s):kJ (Wd (c8 w) l c) s x=Wd Zej l c:=by
 unfold kJ fq;rw[bz];refine gv λt _=>?_;show(if t=s then(s,[x])else(t,(ZJ t).filter (c8 w t)))=(t,(ZJ t).filter (Zej t));have hq:=nV (c:=w) (x:=x) (t:=t) h;by_cases e:t=s
 ·subst e;rw[af rfl]at hq⊢;rw[adq hq hx]
 ·rw[ae e]at hq⊢;have:Zej t=c8 w t:=by funext y;unfold c8;rw[hq]
  rw[this]
theorem aaD{P:Plan}{ab:Za}{q:VF}{l:Za}{c:Choice}{s:Nat}(h:s∈l):(s,(ZJ s).filter (q s))∈Wd q l c:=aN.mpr ⟨s,h,rfl⟩
theorem aiL(P:Plan)(ab:Za)(c:Choice):UW c=Wd (c8 []) Z7 c:=by unfold c_ fq;refine gv λt _=>?_;rw[ads (Dc t)]
def Rf(A:Ad):Sp:=λvs H Q _=>∃(r:Addr) (i:bC) (j:aW) (P:Plan) (ab:Za) (c c':Choice),vs=[.ref r]/\YI/\ZF/\Xj/\completion P ab c=some c'/\
 ∀(H':Hp) (l:Addr),Zd->H l=none->(∃w,c'=c++w/\w.map Zg=Z9 c/\H' l=some (.lst (nats (w.map Z1))))->ZY H'
section
variable {P:Program}{w:World}{K:PySem.W.Frag}{mg:Zx}{base:Heap}{A:Ad}
theorem aj2{f:Addr}{fd:FuncData}(T:Zm)(iK:ZcA)(fA:Zac)(vy:Zw "given" B5 1 ID)
  (j8:ZeO) (F:Zo "first_way" "first_way" zY f fd):Zf3 GK (Rf A):=by
 have nd:=SM.nd;refine F.ok SM Zj Zn
 ·obtain⟨r,i,j,P,ab,c,c',rfl,_⟩:=h;rfl
 ·obtain⟨r,i,j,P,ab,c,c',rfl,hR,wf,wc,Mg,k⟩:=h;ext j;refine⟨_,(ao Zko
   (ao (dN dF rfl (ZS Zbd) VQ (ao (pC 3 (own:=[("person",4)]) rfl nd (ZS (Uc ZC ZR Z2)) (show cB O3 (aA zY) _ _ from Yf) ZcD (λ_ _ _ _ _=>iX (Z4 (az j8 hr rfl (ZL (aa (az vy hr rfl (Xi (X2 ZaD))) ai))) Z0)) ZnC)
   (ak (bq 1 nd (az vy hr rfl (aa (pv 1) (aa (pv 2) (aa (bj (bF K) (pv 3) aR (λ_ _=>rfl)) ai))))))))
   (ak (ay (aas (dW (own:=[("step",2)]) rfl nd (Kh (pv 1)) (show cB O3 (aA zY) _ _ from cP (by decide+kernel)) (λ_ _ _ _ _=>(aZ 2 nd)) (λ_ _ _ _ _=>fU) (λ_ _ _ _ _=>(bj (bF K) (jl hu (pv 1) (pv 2) (λ_ _=>rfl)) aR (λ_ _=>rfl))))))))),?_⟩
  have u9:=Vr;have AN:=HV wf c;ext aL;obtain⟨U,hU⟩:∃U,U=Z9 c:=Zs;ext a;refine ZrU;refine⟨r,i,j,P,ab,c,rfl,XA,wf,λH2 l s2 cY hl=>?_⟩;rw[aiL]at vt;rw[←hU]at vt hl u9 AN;have Mg:YW U c=some c':=by rw[hU];exact Mg
  have hUs:∀t∈U,ZW t=none:=λt ht=>zF t (by rw[←hU];exact ht);obtain⟨Pv,aB⟩:∃Pv:Nat->L2.St->Hp->Prop,∀m σ H',YG H'↔∃(v2 v3 v4:ZM) (w:Choice) (d:Addr),σ=[some Yl,some We,v2,v3,v4]/\Zd/\H' l=some (.lst (nats U))/\Ub d Zof/\
    w.map Zg=U.take m/\WX c/\YW (U.drop m) Zci=some c'/\∀p∈w,p.2∈ZJ p.1:=Ye
  refine⟨l,rfl,Zc0,gH (nats U) Pv ((Zi _).mpr ⟨none,none,none,[],d1,rfl,XJ,hl,vt.same s2,rfl,trivial,by rw[fc];exact Mg,λp hp=>(by cases hp)⟩) (λi σ H' _ hv=>let⟨_,_,_,_,_,_,_,h,_⟩:=(Zi _).mp hv;ag.of h) ?_ ?_⟩
  ·ext aC;obtain⟨v2,v3,v4,w,d,rfl,s3,b0,yp,pP,ET,sv,Ln⟩:=(Zi _).mp hv;ext M;have Lq:st∈U:=bI aT;have pU:=ll aT;have Bc:U.drop m=st::U.drop XH:=by rw[afK pU];congr 1;exact(iQ.mp aT).2
   have Fp:w.map Zg++st::U.drop XH=U:=by rw[pP,←Bc,List.take_append_drop]
   have u7:XC st=none:=zR.mpr (by rw[pP];exact zI u9 aT);have hnU:(w.map Zg++st::U.drop XH).Nodup :=by rw[Fp];exact u9
   have hsU:∀t∈w.map Zg++st::U.drop XH,ZW t=none:=by rw[Fp];exact hUs
   have xT:(YW (st::U.drop XH) Zci).isSome =true:=by rw[←Bc,sv];rfl
   have aK:=aoC P ab c w st _ ET hnU hsU xT;rw[Fp]at aK;obtain⟨x0,rest,ER⟩:∃x0 rest,(ZJ st).filter Zll=x0::rest:=by
    cases e:(ZJ st).filter Zll with
    |nil=>exact ZdV aK
    |cons a b=>exact ZjO
   have sm:=aoB P ab c w st _ ET hnU hsU (x:=x0) (rest:=rest) (by rw[Fp];exact ER);obtain⟨kvs,jD,sj⟩:=yp;have vq:∀w',Zcv (Wd (c8 w') U c):=λw'=>Ea wf ab (c8 w') c u9 AN;obtain⟨r',e1,e2⟩:=rC sj (vq w).nd (aaD (q:=c8 w) Lq);rw[ads u7]at e2;have dg:∀H',Wj H'->Zeg ZdM ZiK:=λH' s=>by have:=ZpL (s.at jD);rw[e1]at this;exact this
   have hal:=aby P ab c st;ext a;refine⟨_,dg H3 ZU,r',rfl,⟨_,ag.of e2⟩,e8 (zs:=ZJ st) (ag.of e2) XF Zb Zll nat (λn v x H' ig hx s4 R S bc hS=>?_) ZwF⟩
   ·ext cB
    have u6:x∈ZJ st:=bI hx;have Bl:Ub d Zof:=ZvP;ext a;refine⟨d,_,st,x,rfl,Bl,by rw[uT];exact Lq,(vq w).len,λH5 d5 s5 Mb nu=>?_⟩;rw[ac3 u7 u6]at nu;refine⟨r,d5,i,j,P,ab,c,_,rfl,((hR.same s3).same s4).same s5,wf,wc,nu,vq _,λH6 b s6 hb=>?_⟩;have eb:b=(Zwu c).isSome :=BL hb (ue P ab _ (zD wf) U c u9 hUs wc.room);refine Zqa;rw[eb];cases e:(Zwu c).isSome with
    |true=>exact aI (bc e _ (s5.trans s6))
    |false=>exact aF (hS e _ (s5.trans s6))
   ·have Fw:H4 D4=some (.lst (nats (x0::rest))):=by rw[h4,ER];rfl
    ext a;refine⟨_,ag.of Fw,nat x0,bQ (j:=0) rfl,d,_,st,x0,rfl,ZvP,by rw[uT];exact Lq,(vq w).len,λH5 d5 s5 Mb nu=>?_⟩;rw[ac3 u7 sm.2.2]at nu;have jj:=ZaA;refine(Zi _).mpr ⟨_,_,_,w++[(st,x0)],d5,rfl,s3.trans jj,jj.at b0,nu,?_,sm.2.1,?_,λp hp=>?_⟩
    ·rw[cA,pP,dA aT];rfl
    ·rw[Bc,sm.1,eC]at sv;exact sv
    ·rcases b8.mp hp with h|h
     ·exact Ln p h
     ·rw[bo.mp h];exact sm.2.2
  ·ext B;obtain⟨v2,v3,v4,w,d,rfl,s3,b0,⟨kvs,jD,sj⟩,pP,ET,sv,Ln⟩:=(Zi _).mp hv;rw[bA,eg]at pP;rw[bA,Hg]at sv;have fI:c'=c++w:=(bY sv).symm;have vq:Zcv Zof:=Ea wf ab (c8 w) c u9 AN;have Fe:=xu sj;have pT:=vq.len;ext a;refine⟨d,_,jD,trivial,λod=>?_⟩;have sf:∀b o',b≠d->H3 b=some o'->U5 d Zde b=some o':=λb o' hb e=>by rw[ax hb];exact e
   have yN:U5 d Zde d=some Zde:=au;simp! [acf];refine⟨od,.inl ⟨kvs,rfl,?_⟩⟩;have hwn:(w.map Zg).Nodup :=by rw[pP];exact u9
   refine alA yN Zb Y9 (λkv=>Zro) (λn z H' hz s4 R S bc hS=>?_) ZwF
   ·obtain⟨p,hp,eS⟩:=gN sj hz;obtain⟨t,ht,rfl⟩:=get_map hp;have htU:t∈U:=bI ht;obtain⟨pw,ox,oI⟩:=aN.mp (show t∈w.map Zg by rw[pP];exact htU);have rZ:XC t=some pw.2:=w4 hwn (by rw[←oI];exact ox);have E2:pw.2∈ZJ t:=by have:=Ln pw ox;rw[oI]at this;exact this
    obtain⟨r',e1,e2⟩:=rC sj vq.nd (aaD (q:=c8 w) htU);rw[adq rZ E2]at e2;have iE:r'≠d:=ie e2 jD (by intro z;cases z);have fF:z.1=Sum.inl (t:Int):=eS.1;have ek:kV z.1=nat t:=by rw[fF];rfl
    have dg:Zeg (nat t) ZiK:=.inl ⟨kvs,Sum.inl (t:Int),.inr ⟨od,s4.at yN⟩,rfl,e1.symm⟩;have ev:nat ((XC (match z.1 with | .inl n=>n.toNat| .inr _=>0)).getD 0)=nat pw.2:=by rw[fF];show nat ((XC (Int.toNat (t:Int))).getD 0)=_;rw[mE,rZ];rfl
    have L1:R (nat pw.2) H':=by have h:=bc rfl H' ZU;rw[ev]at h;exact h
    rw[ek];ext a;refine⟨_,dg,r',rfl,_,ag.of (s4.at (sf _ _ iE e2)),nat pw.2,bQ (j:=0) rfl,L1⟩
   ·refine⟨s4.at yN,?_⟩;have sH:Z8 (U6 d YA):=s3.trans (alm jD s4);have yw:H3 D4=none:=by
     by_cases e:D4=d
     ·subst e;rw[yN]at vw;cases vw
     ·rw[ax e]at vw;exact vw
    have hDd:D4≠d:=λe=>by rw[e,jD]at yw;cases yw
    refine k _ D4 sH (s3.free yw) ⟨w,fI,by rw[pP,hU],?_⟩;rw[ax hDd,h4,filter_all];congr 2;have e1:∀{kvs:Yb} {o:cz},Paired (jc H3) kvs o->(kvs.map λkv=>Zro)=nats ((keys o).map λt=>(XC t).getD 0):=by
     intro kvs o hp
     induction hp with
     |nil=>rfl
     |cons h t ih=>
      ext aM;rw[cw,ih,h.1];show nat ((XC (Int.toNat (p.1:Int))).getD 0)::_=_;rw[mE];rfl
    rw[e1 sj,uT,←pP,bz];congr 1;refine gv λp hp=>?_;show(XC p.1).getD 0=p.2;rw[w4 hwn (show(p.1,p.2)∈w from hp)];rfl
end
end
section
open Vbwbal (signer load goesWith fits unsigned complete canEnd completion choose subsets)
theorem arQ{ch:Za}(h:ch≠[]):f_ (nats ch) (-1)=some ZwZ:=by
 have e:ch=ch.dropLast++[ch.getLastD 0]:=by
  have h1:=List.dropLast_concat_getLast h;have h2:ch.getLast h=ch.getLastD 0:=by
   cases ch with
   |nil=>exact absurd rfl h
   |cons a r=>simp[List.getLastD]
  rw[h2]at h1;exact h1.symm
 have:=arR (nats ch.dropLast) ZwZ;rw[←KC,←e]at this;ext d
theorem fN.snoc{H H':Hp}{a p:Addr}{rows:Yq}{row:Za}{rs:Zy}(hp:Zhf rows)(k:Zr7)(ha:H a=some WR)(hd:∀r∈rs,r≠a)
  (sy:H' a=some (.lst (rs.map V.ref++[.ref p]))) (E1:H' p=some (.lst (nats row))):∃z_:List Addr,z_=rs++[p]/\H' a=some (.lst (z_.map V.ref))/\Zcx z_ (rows++[row]):=by
 refine⟨rs++[p],rfl,by rw[sy,cA];rfl,?_⟩;have h2:Zcx rs rows:=by
  clear ha sy
  induction hp with
  |nil=>exact .nil
  |cons h t ih=>exact .cons (W6 (hd _ aY) trivial h) (ih λr hr=>hd r (ZE hr))
 exact qo h2 E1
def Oy(H0 H:Hp)(a:Addr)(rows:Yq):Prop:=∃rs:List Addr,H a=some WR/\Zhf rows/\∀r∈rs,r≠a/\H0 r=none
theorem aiX(iM:Yq)(ch:Za)(ms:Za):lh (iM++[ch]) ms=lh iM ms++(ms.filter Wb).map (λm=>ch++[m]):=by unfold lh;rw[oT];simp
theorem aaJ(ms:Za):∀iM:List Za,(lh iM ms).length <=iM.length*ms.length
 |[]=>ZI
 |ch::r=>by have ih:=aaJ ms r;unfold lh at ih⊢;rw[iR,bS,aq,bb,Nat.succ_mul];have:=eZ Wb ms;omega
theorem DU{H H':Hp}{a:Addr}(k:Zr7):∀{rs:Zy} {rows:Yq},(∀r∈rs,r≠a)->Zhf rows->Zcx rs rows
 |_,_,_,.nil =>.nil
 |_,_,h,.cons e t=>.cons (W6 (h _ aY) trivial e) (DU k (λr hr=>h r (ZE hr)) t)
theorem aaA{α β:Type}{F:Uu}:∀{l l':ZN} {m m':Wz},Zce->Zc6 l' m'->Zc6 (l++l') (m++m')
 |_,_,_,_,.nil,h=>h
 |_,_,_,_,.cons e t,h=>.cons e (aaA t h)
theorem al3{α β:Type}{l:ZN}{m:Wz}(h:l.length=m.length):l.isEmpty=m.isEmpty:=by cases l<;>cases m<;>simp_all
def Q6:Sp:=λvs H Q _=>∃(a b:Addr) (iM:Yq) (ms:Za),vs=[.ref a,.ref b]/\Za8 iM/\H b=some (.lst (nats ms))/\iM.length<=128/\ms.length<=7/\(∀ch∈iM,ch.length<=7)/\
 ∀(H':Hp) (l:Addr),Zd->H l=none->Oy H H' l (lh iM ms)->ZY H'
section
variable {P:Program}{w:World}{K:PySem.W.Frag}{mg:Zx}{base:Heap}{A:Ad}
theorem ajH{f:Addr}{fd:FuncData}(T:Zm)(F:Zo "one_longer" "one_longer" Jt f fd):Z3 GC Q6:=by
 have nd:=Sn.nd;refine F.ok Sn Zj Zn
 ·obtain⟨a,b,iM,ms,rfl,_⟩:=h;rfl
 ·obtain⟨a,b,iM,ms,rfl,⟨rs,ha,dv⟩,hb,kI,pU,gW,k⟩:=h;ext c;refine⟨_,(ao ZdB
   (ao (dN dF rfl (ZS Yp) VJ (ak (dN dF rfl (ZS ZC) VM (ak (bg (PW.pt (pB (eR (Z4 ZG Z0)) (pA (bN pG YB (Wk ZG (air agy aR) Z2) ZP)))) (ak (dU (WK ZR (aa (cR lg ZG (bh ZaD)) ai)))) bp)))))
   (ak (ay (pv 2))))),?_⟩
  ext a;refine⟨ZI,λl hl=>?_⟩;have s1:ZpI:=a0 hl;obtain⟨Pv,aB⟩:∃Pv:Nat->L2.St->Hp->Prop,∀m σ H',YG H'↔∃(v3 v4:ZM),σ=[some ZX,some ZdL,some Z5,v3,v4]/\Zd/\Oy H H' l (lh ZqG ms):=Ye;refine⟨⟨_,ZcW⟩,gH W8 Pv ((Zi _).mpr ⟨none,none,rfl,s1,[],au,.nil,λr hr=>Zji⟩) (λi σ H' _ hv=>let⟨_,_,_,s2,_⟩:=(Zi _).mp hv;ag.of (s2.at ha)) ?_ ?_⟩
  ·ext O;ext dd;obtain⟨r,hr,rfl⟩:=Wo;obtain⟨ch,nt,eS⟩:=gN dv hr;have avd:=gW ch (bI nt);have auW:=ll nt;obtain⟨Pw,cj⟩:∃Pw:Nat->L2.St->Hp->Prop,∀n σ H',Pw n σ H'↔∃(v4:ZM),σ=[some ZX,some ZdL,some Z5,some Yl,v4]/\Zd/\Oy H H' l (lh ZqG ms++((ms.take n).filter Wb).map (λx=>ch++[x])):=Ye;ext a;refine⟨⟨_,ag.of (s2.at hb)⟩,gH (nats ms) Pw ((Yk _).mpr ⟨v4,rfl,s2,by simpa using yq⟩) (λi σ H' _ hv=>let⟨_,_,s3,_⟩:=(Yk _).mp hv;ag.of (s3.at hb)) ?_ ?_⟩
   ·intro n y σ H3 hy hv;obtain⟨v4,rfl,s3,xi,b0,jZ,jD⟩:=(Yk _).mp hv;ext bx;have jY:=s3.at eS;have au2:xi.length<=1000:=by rw[du jZ,bS,aq];have h1:=aaJ ms ZqG;have h2:=eZ Wb (ms.take n);rw[eY]at h1 h2;have h3:min m iM.length*ms.length<=128*7:=aeV Zb pU;omega
    have BC:(ms.take Wi).filter Wb=(ms.take n).filter Wb++(if above ch x=true then [x]else []):=by
     rw[dA hx,wo];congr 1;by_cases e:Wb x=true
     ·rw[af e,jf,af e];rfl
     ·rw[ae e,jf,ae e];rfl
    have app:Wb x=true->1<=sizeLine/\∀(p:Addr),H3 p=none->∃x_1,ZhN r=some (HO.lst x_1)/\x_1.length+1<=sizeLine/\∀(rB:Addr),ZhN rB=none->∃x_2,
      upd ZhN rB ZvZ l=some (HO.lst x_2)/\x_2.length<sizeLine/\
       Pw Wi [some Zkl,some (V.ref b),some (V.ref l),some ZkE,some XZ] (upd (upd ZhN rB ZvZ) l (HO.lst (x_2++[V.ref rB]))):=λdc=>by
     refine⟨(by rw[hsz];decide),λq hq=>⟨nats ch,?_,by rw[bA,hsz];omega,λp hp=>⟨xi.map V.ref,?_,by rw[aq,hsz];omega,?_⟩⟩⟩
     ·rw[ax (cg jY hq)];exact jY
     ·have oy:H3 p=none:=(a0 hq).free hp;rw[ax (cg b0 oy),ax (cg b0 hq)];exact b0
     ·have oy:H3 p=none:=(a0 hq).free hp;have s4:Wj Zrw:=bV U8 oy;have cC:p≠l:=λe=>by rw[e,b0]at oy;cases oy
      obtain⟨z_,e1,e2,e3⟩:=fN.snoc (H':=upd Zrw l (.lst (xi.map V.ref++[.ref p]))) (row:=ch++[x]) jZ (λb o hb t e=>by rw[ax hb];exact s4.keep _ _ t e) b0 (λr hr=>(jD r hr).1) au
       (by rw[ax cC,au,KC])
      refine(Yk _).mpr ⟨_,rfl,bV ZfZ hl (gf (s4.at b0)),z_,e2,?_,λr' iG=>?_⟩
      ·rw[BC,af dc,cA,←eC];exact e3
      ·rw[e1]at iG;rcases b8.mp iG with h|h
       ·exact jD r' h
       ·rw[bo.mp h];exact⟨cC,s3.free oy⟩
    have skip:Wb x=false->Pw Wi [some Zkl,some (V.ref b),some (V.ref l),some ZkE,some XZ] H3:=λdc=>by refine(Yk _).mpr ⟨_,rfl,s3,xi,b0,?_,jD⟩;rw[BC,ae (by rw[dc];simp),fc];exact jZ
    simp! [cQ b0];cases gG:ch with
    |nil=>
     refine⟨false,Ztw,?_⟩;simp! [wD];exact app (by rw[gG];rfl)
    |cons c0 cr=>
     have aK:ch≠[]:=by rw[gG];simp
     refine⟨true,Ztw,?_⟩;simp! [qA];refine⟨_,ag.of jY,_,arQ aK,?_⟩;have dc:Wb x=decide ((ch.getLastD 0 :Int)<(x:Int)):=by
      unfold above;have:ch.isEmpty=false:=by rw[gG];rfl
      rw[this,Hq];congr 1;exact propext Zb
     ext a;rw[←dc];cases e:Wb x with
     |true=>exact aI (app e)
     |false=>exact aF (skip e)
   ·ext B;obtain⟨v4,rfl,s3,yp⟩:=(Yk _).mp hv;refine(Zi _).mpr ⟨_,_,rfl,s3,?_⟩;rw[bA,eg]at yp;rw[dA nt,aiX];exact yp
  ·intro σ H2 hv;ext dd;rw[aq,du dv,eg]at yq;ext a;exact k H2 l s2 hl yq
def C6:Sp:=λvs H Q _=>∃(b:Addr) (ms:Za),vs=[.ref b]/\H b=some (.lst (nats ms))/\ms.length<=7/\ms.Pairwise Vf/\
 ∀(H':Hp) (l:Addr),Zd->H l=none->fN H' l (subsets ms)->ZY H'
theorem aka{f:Addr}{fd:FuncData}(T:Zm)(MP:Zw "one_longer" GC 1 Q6)(F:Zo "choices_of" "choices_of" JI f fd):X8 zc C6:=by
 have nd:=SU.nd;refine F.ok SU Zj Zn
 ·obtain⟨b,ms,rfl,_⟩:=h;rfl
 ·obtain⟨b,ms,rfl,hb,pU,ox,k⟩:=h;ext c;have anP:2 ^ ms.length<=128:=cq (Zwo pU) Zk;refine⟨_,(ao (UQ WU)
   (ao (WN (bh Zqr))
   (ao (Ke dF Zpj (ao (dU (Up ZC Xm))
   (ak (bq 2 nd (az MP hr rfl (aa (pv 2) (aa (pv 0) ai)))))))
   (ak (ay (pv 1)))))),?_⟩
  ext a;refine⟨ZI,λfo vi=>⟨ZI,λe0 he0=>⟨(by rw[hsz];decide),λl0 cY=>?_⟩⟩⟩;have acS:H e0=none:=(a0 vi).free he0;have anc:H l0=none:=(bV (a0 vi) acS).free cY;have L4:fo≠e0:=cg au he0;have kH:e0≠l0:=cg au cY;have sq:fo≠l0:=by refine cg (H:=upd (ZH fo Yh) e0 Yh) (o:=.lst []) ?_ cY;rw[ax L4,au]
  obtain⟨Pw,cj⟩:∃Pw:L2.St->Hp->Prop,∀σ H',Pw σ H'↔∃(n:Nat) (lv:Addr),n<=ms.length+1/\σ=[some ZdL,some (.ref fo),some (.ref lv)]/\Zd/\(∃rs,H' fo=some WR/\Zcx rs (levels ms n)/\∀r∈rs,r≠fo)/\
    (∃rs,H' lv=some WR/\Zcx rs (VX ms)/\∀r∈rs,r≠fo)/\lv≠fo:=Zoo
  have lenOf:∀(H':Hp) (lv:Addr) (n:Nat) rs,H' lv=some WR->Zcx rs (VX ms)->yY K (.ref lv) H' (!(VX ms).isEmpty):=λH' lv n rs h1 h2=>by refine .inl ⟨_,ag.of h1,?_⟩;rw[al3 (l:=W8) (m:=VX ms) (by rw[aq];exact du h2)]
  refine HP Pw (λ_ H'=>match H' fo with |some (.lst xs)=>100000-xs.length|_=>0) ((cj _ _).mpr ⟨0,l0,ZI,rfl,?_,⟨[],?_,.nil,λr hr=>Zji⟩,⟨[e0],au,?_,λr hr=>?_⟩,λe=>sq e.symm⟩) ?_ ?_
  ·exact bV (bV (a0 vi) acS) anc
  ·rw[ax sq,ax L4,au];rfl
  ·rw[nA];refine ZgU .nil;rw[ax kH,au];rfl
  ·rw[bo.mp hr];exact λe=>L4 e.symm
  ·intro σ H1 hw;obtain⟨n,lv,hn,rfl,s1,⟨rf,f1,f2,f3⟩,⟨rl,l1,l2,l3⟩,Fd⟩:=(cj _ _).mp hw;have si:=K4 ms n;have au9:rf.length<=1024:=by rw[du f2];have:n*2 ^ ms.length<=8*128:=aeV Zb anP;omega
   have kI:=FY ms n;have fG:rl.length<=128:=by rw[du l2];omega
   ext a;refine⟨_,lenOf H1 lv n rl l1 l2,?_⟩;cases gG:(VX ms).isEmpty with
   |true=>
    simp! [qA];have x_:n=ms.length+1:=by
     by_cases h:n<=ms.length
     ·exact absurd (Ha.mp gG) (ad8 ms n h)
     ·omega
    subst x_;exact k H1 fo s1 vi ⟨rf,f1,f2⟩
   |false=>
    have x_:n<=ms.length:=by
     by_cases h:n<=ms.length
     ·exact h
     ·rw[FX ms n Zb]at gG;cases gG
    simp! [wD,cQ f1];refine⟨_,f1,_,l1,by rw[aq,aq,hsz];omega,?_⟩;have ou:∀b' o',b'≠fo->NT o'->H1 b'=some o'->Zsc b'=some o':=λb' o' fi _ e=>by rw[ax fi];exact e
    have s2:Z8 Zsc:=bV s1 vi;refine⟨lv,b,VX ms,ms,rfl,⟨rl,ou _ _ Fd trivial l1,?_⟩,s2.at hb,Zb,pU,λch hc=>?_,λH3 l3' s3 yc yp=>?_⟩
    ·exact DU ou l3 l2
    ·have:=(vM n ms ch hc).2;omega
    ·obtain⟨xi,g1,g2,g3⟩:=yp;rw[aaK ms ox n]at g2;have acL:H3 fo=some (.lst ((rf++rl).map V.ref)):=by rw[cA];exact s3.at au
     refine⟨(cj _ _).mpr ⟨n+1,l3',Zb,rfl,ZfU,⟨rf++rl,acL,?_,λr hr=>?_⟩,⟨xi,g1,g2,λr hr e=>?_⟩,λe=>?_⟩,?_⟩
     ·rw[abr];exact aaA (Zx3 (DU ou f3 f2)) (Zx3 (DU ou l3 l2))
     ·rcases b8.mp hr with h|h
      ·exact f3 r h
      ·exact l3 r h
     ·have:=(g3 r hr).2;rw[e,au]at this;cases this
     ·rw[e,au]at yc;cases yc
     ·show(match H3 fo with |some (.lst xs)=>100000-xs.length|_=>0)<(match H1 fo with |some (.lst xs)=>100000-xs.length|_=>0);rw[acL,f1];show 100000-((rf++rl).map V.ref).length <100000-(rf.map V.ref).length;rw[aq,aq,bS];have:0<rl.length:=by
       rw[du l2];cases hq:VX ms with
       |nil=>rw[hq]at gG;cases gG
       |cons a b=>exact Nat.succ_pos _
      omega
  ·intro σ H1 Q1 Q2 f h;obtain⟨v,h1,b,h2,h3⟩:=h;exact⟨v,h1,b,h2,f _ _ h3⟩
end
end
section
open Vbwbal (signer load goesWith fits unsigned complete canEnd completion choose subsets)
def Ri(A:Ad):Sp:=λvs H Q _=>∃(r:Addr) (i:bC) (j:aW) (P:Plan) (ab:Za) (c:Choice) (l:Za),vs=[.ref r]/\YI/\ZF/\Xj/\ZiO c=some l/\
 ∀(H':Hp) (a:Addr),Zd->H' a=some Zfi->Q ZX H'
def Q7(A:Ad):Sp:=λvs H Q _=>∃(r:Addr) (i:bC) (j:aW) (P:Plan) (ab:Za) (c:Choice) (l:Za),vs=[.ref r]/\YI/\ZF/\Xj/\Ziu c=some l/\
 ∀(H':Hp) (a:Addr),Zd->H' a=some Zfi->Q ZX H'
theorem TM(P:Plan)(c:Choice):(Z9 c).Pairwise Vf:=by unfold unsigned;exact afQ _ O5
theorem ahP(P:Plan)(ab:Za):(kX P ab).Pairwise Vf:=by unfold kX;exact afQ _ O5
theorem alv(P:Plan)(ab:Za):(kX P ab).length <=P.persons.length:=Zbc
theorem aiK{P:Plan}{ab:Za}{c:Choice}{s:Nat}(h:s∈Z9 c):fE XM s=ZJ s:=by have h1:=Eb (o:=XM) (s:=s) (by rw[xN];exact h);obtain⟨t,_,e⟩:=aN.mp h1;have e1:t=s:=Zf4 e;have e2:ZJ t=fE XM s:=Zf5 e;rw[←e2,e1]
theorem aiW{P:Plan}{ab:Za}{c:Choice}{ss:Za}(h:∀s∈ss,s∈Z9 c):km XM ss=Wd Zbp ss c:=by rw[xt];unfold km;refine gv λs hs=>?_;rw[aiK (h s hs)]
theorem aoz(P:Plan)(ab xs:Za)(s x:Nat):fits P (ab++xs) s x=(YD x&& !(xs.contains x)):=by
 unfold fits;cases P.steps[s]? with
 |none=>rfl
 |some t=>
  cases P.persons[x]? with
  |none=>rfl
  |some y=>
   have:(ab++xs).contains x=(ab.contains x||xs.contains x):=by rw[iS,h_,bx,bx,bx,b8]
   show(!((ab++xs).contains x)&&_)=((!(ab.contains x)&&_)&& !(xs.contains x));rw[this];cases ab.contains x<;>cases xs.contains x<;>simp
theorem agm(P:Plan)(ab xs:Za)(c:Choice):jQ XM xs=c_ P (ab++xs) c:=by unfold jQ c_;rw[bz];refine gv λs _=>?_;show(s,(ZJ s).filter λx=>!(xs.contains x))=(s,bR P (ab++xs) c s);unfold bR;rw[qv];congr 1;refine nH λx _=>?_;rw[aoz];cases fits P ab s x<;>cases goesWith P c s x<;>cases xs.contains x<;>rfl
theorem Nv{α:Type}{p:ZdI}:∀{l:ZN} {i:Nat} {x:α},l[i]? =some x->p x=true->(∀y∈l.take i,p y=false)->l.find? p=some x
 |a::l,0,x,h,hp,_=>by have e:a=x:=bY h;subst e;rw[oU,hp]
 |a::l,i+1,x,h,hp,hn=>by have h1:p a=false:=hn a (by rw[afp];exact aY);rw[oU,h1];exact Nv h hp λy hy=>hn y (by rw[afp];exact ZdT)
section
variable {P:Program}{w:World}{K:PySem.W.Frag}{mg:Zx}{base:Heap}{A:Ad}
theorem aj7{f:Addr}{fd:FuncData}(T:Zm)(iK:ZcA)(fA:Zac)(qd:Zmu)
  (MN:Zw "only_steps" GA 1 Q4) (j8:ZeO) (F:Zo "core_steps" "core_steps" JF f fd):Zf3 GN (Ri A):=by
 have nd:=SQ.nd;refine F.ok SQ Zj Zn
 ·ext dv
 ·obtain⟨r,i,j,P,ab,c,l,rfl,hR,wf,wc,Mf,k⟩:=h;refine⟨_,(ao Zko
   (ao (dN dF rfl (ZS Zvd) VQ (ak (bg (eR (Z4 (az j8 hr rfl (ZL (aa (az MN hr rfl (Xi Xm)) ai))) Z0)) (ak (ay ZR)) bp)))
   (ak (ay (bh ai))))),?_⟩
  have AN:=HV wf c;ext ab;refine ZrZ;refine⟨u,_,rfl,hu,AN,TM P c,λH3 a s3 Fo ⟨rs,ha,dv⟩=>?_⟩;ext V;obtain⟨Pv,aB⟩:∃Pv:Nat->L2.St->Hp->Prop,∀m σ H',YG H'↔∃(v2:ZM),σ=[some Yl,some We,v2]/\Wj H'/\∀ss∈(subsets Z7).take m,(YW ss c).isNone =false:=Ye;refine ZqT
  ·ext bQ;have xT:ss∈subsets Z7:=bI jv;obtain⟨gj,Lr⟩:=zM xT;have AV:=Ic Vr xT;ext cH;ext a;refine⟨d,q,_,ss,rfl,Bl,(Zg5 c).nd,s4.at eS,AV,λt ht=>by rw[xN];exact gj t ht,Zb,λH5 d5 s5 Mb nu=>?_⟩;rw[aiW gj]at nu;refine⟨r,d5,i,j,P,ab,c,_,rfl,((hR.same cG).same s4).same s5,wf,wc,nu,Ea wf ab _ c AV Zb,λH6 b s6 hb=>?_⟩;have xU:=ZnB ss c AV (λt ht=>zF t (gj t ht)) wc.room;rw[yQ]at xU;have eb:b=(YW ss c).isSome :=BL hb xU;ext cG;cases e:(YW ss c).isSome with
   |true=>
    ext cc;rcases b8.mp ht with h|h
    ·exact gD t h
    ·rw[bo.mp h];cases q:YW ss c with
     |none=>rw[q]at e;cases e
     |some v=>rfl
   |false=>
    rw[eb,e];ext e;have hn:(YW ss c).isNone =true:=by
     cases q:YW ss c with
     |none=>rfl
     |some v=>rw[q]at e;cases e
    have:=Nv jv hn gD;have el:l=ss:=bY (Mf.symm.trans this);rw[el]at k;exact Zup
  ·ext b2;have h1:=G8 Mf;have h2:=afG Mf;have h3:=gD l h1;rw[h3]at h2;cases h2
theorem ajI{f:Addr}{fd:FuncData}(T:Zm)(iK:ZcA)(p_:ZlH)(qd:Zmu)
  (Mz:Zw "without_persons" Gg 1 QI) (j8:ZeO) (F:Zo "needed_persons" "needed_persons" Ju f fd):Zf3 GD (Q7 A):=by
 have nd:=So.nd;refine F.ok So Zj Zn
 ·ext dv
 ·obtain⟨r,i,j,P,ab,c,l,rfl,hR,wf,wc,LK,k⟩:=h;refine⟨_,(ao Zko
   (ao (dN dF rfl (ZS (az qd hr rfl (aa Zmv ai))) VQ (ak (bg (eR (Z4 (az j8 hr rfl (ZL (aa (az Mz hr rfl (Xi Xm)) ai))) Z0)) (ak (ay ZR)) bp)))
   (ak (ay (bh ai))))),?_⟩
  have jz:=cq (alv P ab) wf.persons;ext ab;refine ZrZ;refine⟨u,_,rfl,hu,jz,ahP P ab,λH3 a s3 Fo ⟨rs,ha,dv⟩=>?_⟩;ext V;obtain⟨Pv,aB⟩:∃Pv:Nat->L2.St->Hp->Prop,∀m σ H',YG H'↔∃(v2:ZM),σ=[some Yl,some We,v2]/\Wj H'/\∀ss∈(subsets ZkL).take m,(!(ZjG c))=false:=Ye;refine ZqT
  ·ext bQ;ext cH;have ok:=Zg5 c;ext a;refine⟨d,q,_,ss,rfl,Bl,ok.nd,ok.len,ok.rows,s4.at eS,λH5 d5 s5 Mb nu=>?_⟩;rw[agm]at nu;refine⟨r,d5,i,j,P,ab,c,_,rfl,((hR.same cG).same s4).same s5,wf,wc,nu,xw wf (ab++ss) c,λH6 b s6 hb=>?_⟩;have eb:b=ZjG c:=BL hb (Tq wf wc);ext cG;cases e:ZjG c with
   |true=>
    ext cc;rcases b8.mp ht with h|h
    ·exact gD t h
    ·rw[bo.mp h,e];rfl
   |false=>
    rw[eb,e];ext e;have:=Nv (p:=λl=>!(ZlR (ab++l) c)) jv (by show(!(ZjG c))=true;rw[e];rfl) gD;have el:l=ss:=bY (LK.symm.trans this);rw[el]at k;exact Zup
  ·ext b2;have h1:=G8 LK;have h2:=afG LK;have h3:=gD l h1;rw[h3]at h2;cases h2
end
end
section
open Vbwbal (signer load goesWith fits unsigned complete canEnd completion choose subsets barred ready)
abbrev afi:Zc:=["record","step","person","earlier"]
theorem S2:aV afi zd (aA DE):=Zl
abbrev afc:Zc:=["record","step","person"]
theorem SK:aV afc GJ (aA Dz):=Zl
def C9(A:Ad):Sp:=λvs H Q _=>∃(r:Addr) (i:bC) (j:aW) (P:Plan) (ab:Za) (c:Choice) (s x:Nat),vs=[.ref r,nat s,nat x]/\YI/\ZF/\Xj/\s<P.steps.length/\x<P.persons.length/\
 ∀(H':Hp),Zd->Q (nat (Zbz s x)) H'
def Rb(A:Ad):Sp:=λvs H Q _=>∃(r:Addr) (i:bC) (j:aW) (P:Plan) (ab:Za) (c:Choice) (s:Nat),vs=[.ref r,nat s]/\YI/\ZF/\Xj/\s<P.steps.length/\
 ∀(H':Hp) (l:Addr),Zd->H l=none->H' l=some (.lst (nats ((List.range P.persons.length).filter λx=>Zbz s x==0)))->ZY H'
theorem ahT(P:Plan)(c:Choice)(s:Nat):((WT s).map λt=>(ZW t).isNone).any id= !(ready P c s):=by
 unfold ready iT;rw[bz,wq]
 induction P.after with
 |nil=>rfl
 |cons y r ih=>
  rw[jf,hZ,Bool.not_and,←ih];ext Z
  ·have e1:(y.1==s)=true:=by simp[e]
   have e2:(y.1 != s)=false:=by simp[e]
   rw[af e1,ka,e2];cases h:ZW y.2<;>simp[h]
  ·have e1:¬(y.1==s)=true:=by simp[e]
   have e2:(y.1 != s)=true:=by simp[e]
   rw[ae e1,e2];simp
section
variable {P:Program}{w:World}{K:PySem.W.Frag}{mg:Zx}{base:Heap}{A:Ad}
theorem akj{f:Addr}{fd:FuncData}(T:Zm)(yB:ZuP)(yF:Zws)(yI:Zvr)
  (M3:Zw "can_be_ended_with" GR 14 (Rm A)) (F:Zo "bar_of" "bar_of" DE f fd):Y2 15 f fd zd (C9 A):=by
 have nd:=S2.nd;refine F.ok S2 Zj Zn
 ·ext dk
 ·obtain⟨r,i,j,P,ab,c,st,x,rfl,hR,wf,wc,aT,hx,k⟩:=h;refine⟨_,(ao (bg (bN aaI Zpk uD ZP) (ak (ay (bE T.an3 rfl))) bp)
   (ao (bg (Z4 (Zhz (aa (dW (own:=[("earlier",3)]) rfl nd (ZS (az yB hr rfl (Vp Wr))) (show cB afi (aA DE) _ _ from Yf) Zis Xc (λ_ _ _ _ _=>(eE Ks (ZaU ZG Z2) uD ZP))) ai)) Z0) (ak (ay (bE T.an1 rfl))) bp)
   (ao (bg (eR (Z4 (az yF hr rfl (ZL (X2 Wr))) Z0)) (ak (ay (bE T.aof rfl))) bp)
   (ao (bg (eR (Z4 (az yI hr rfl (ZL (X2 Wr))) Z0)) (ak (ay (bE T.aom rfl))) bp)
   (ao (bg (eR (Z4 (az M3 hr rfl (ZL (Xi Xm))) Z0)) (ak (ay (bE T.an8 rfl))) bp)
   (ak (ay (bE T.ade rfl)))))))),?_⟩
  ext v;have n2:=ZcO;simp! [hR.ins,T.dD,n2,xj];refine⟨_,ZjM,_,bQ (IK aT),?_⟩;simp! [EK];unfold barred at k;cases fX:ZW st with
  |some y=>
   rw[fX]at k;exact aI UO
  |none=>
   rw[fX,ae Zh]at k;ext g;simp! [hR.ins,T.dD,n1,lQ];refine⟨i.p,j,P,st,rfl,hR.plan,wf.after,λH1 l s1 cY hl=>?_⟩;have fK:=XA;have pR:(WT st).length <=12:=by unfold iT;rw[aq];exact WO wf.after
   refine⟨l,rfl,Zc0,e8 (zs:=WT st) Zj8 XF Zb Y9 (λz=>.bl (ZW z).isNone) Ztj (λD H2 hD s2 h2=>?_)⟩
   ·ext o
    have j7:=fK.same s2;have cE:z<P.steps.length:=(wf.gd _ (.inl (KS.mp Xv))).2;simp! [j7.ins,T.dD,n2,xj];refine⟨_,ag.of j7.ib,_,bQ (IK cE),?_⟩;rw[EK];exact bc rfl _ ZU
   ·refine⟨_,rfl,(WT st).map λz=>(ZW z).isNone,ag.of (by rw[h2,filter_all,bz];rfl),_,rfl,?_⟩;rw[ahT];ext C;cases hre:ready P c st with
    |false=>
     rw[af hre]at k;exact aI (k H2 cD)
    |true=>
     rw[ae (by rw[hre];simp)]at k;ext g;ext a;refine⟨r,i,j,P,ab,c,x,st,rfl,hR.same cD,wf,hx,aT,λH3 s3=>?_⟩;have cG:=Zdq;cases hfi:Zcl x with
     |false=>
      rw[af hfi]at k;exact .inl ⟨rfl,k H3 cG⟩
     |true=>
      rw[ae (by rw[hfi];simp)]at k;refine .inr ZbG;refine⟨r,i,j,P,ab,c,x,st,rfl,hR.same cG,wf,wc,hx,λH4 s4=>?_⟩;ext aK;cases pY:Zb6 x with
      |false=>
       rw[af pY]at k;exact .inl ⟨rfl,k H4 jT⟩
      |true=>
       rw[ae (by rw[pY];simp)]at k;refine .inr ZbG;refine⟨r,i,j,P,ab,c,st,x,rfl,hR.same jT,wf,wc,aT,fX,hx,pY,λH5 s5=>?_⟩;have uh:=ZqH;cases gG:Zcm (c++[(st,x)])with
       |false=>
        rw[af gG]at k;exact .inl ⟨rfl,k H5 uh⟩
       |true=>
        rw[ae (by rw[gG];simp)]at k;exact .inr ⟨rfl,k H5 uh⟩
theorem aj1{f:Addr}{fd:FuncData}(T:Zm)(qe:Zmj)(F:Zo "free_signers" "free_signers" Dz f fd):Y2 16 f fd GJ (Rb A):=by
 have nd:=SK.nd;refine F.ok SK Zj Zn
 ·obtain⟨r,i,j,P,ab,c,s,rfl,_⟩:=h;rfl
 ·obtain⟨r,i,j,P,ab,c,st,rfl,hR,wf,wc,aT,k⟩:=h;refine⟨_,(ak (ay (dW (own:=[("person",2)]) rfl nd Zsr (show cB afc (aA Dz) _ _ from Yf) Zbf (λ_ _ _ _ _=>iX (WG (az qe hr rfl (ZL (Xi Xm))) (bE T.ade rfl) ZP)) ZyK))),?_⟩;ext aL;ext aQ;refine ZtI;rw[mE];refine ZuU (λx=>Zbz st x==0) nat ZuI ZeD;ext a;refine⟨r,i,j,P,ab,c,st,x,rfl,XA,wf,wc,aT,hx,λH2 s2=>?_⟩;refine ZbG;by_cases e:Zbz st x=0
  ·have e1:decide (nat (Zbz st x)=V.int 0)=true:=by rw[e];rfl
   rw[e1];exact aI (bc Zdn _ s2)
  ·have e1:decide (nat (Zbz st x)=V.int 0)=false:=by refine aX λq=>e ?_;rw[lY]at q;omega
   rw[e1];exact aF (hS Zdn _ s2)
end
end
section
open Vbwbal (splitBy wordsOf letter digit isName numOf lineOf text)
abbrev asB:Zc:=["byte"]
theorem RV:aV asB Gn (aA Jd):=Zl
abbrev O2:Zc:=["text","signs","byte","line"]
theorem Sx:aV O2 GG (aA zX):=Zl
abbrev ae9:Zc:=["word","sign"]
theorem SE:aV ae9 B3 (aA Dv):=Zl
abbrev afk:Zc:=["words","word"]
theorem S4:aV afk GV (aA DG):=Zl
abbrev afa:Zc:=["word","sign"]
theorem SF:aV afa GH (aA Dx):=Zl
theorem ahc:(Str.ofString " ")=⟨#[32]⟩:=by decide+kernel
theorem aha:(Str.ofString "\n")=⟨#[10]⟩:=by decide+kernel
theorem Qt:(Str.ofString "?")=⟨#[63]⟩:=by decide+kernel
theorem abt:(Str.ofString "abcdefghijklmnopqrstuvwxyz").cps.toList =(List.range 26).map (· +97):=by decide+kernel
theorem adM:(Str.ofString "0123456789").cps.toList =(List.range 10).map (· +48):=by decide+kernel
theorem K5:(Str.ofString "abcdefghijklmnopqrstuvwxyz").length =26:=by decide+kernel
theorem NO:(Str.ofString "0123456789").length =10:=by decide+kernel
theorem abu(c:Nat):decide (c∈(Str.ofString "abcdefghijklmnopqrstuvwxyz").cps.toList)=letter c:=by
 rw[abt];unfold letter;refine sI.mpr ?_;rw[aN];ext b
 ·ext dm
 ·intro h;exact⟨c-97,ZfY,Zb⟩
theorem adN(c:Nat):decide (c∈(Str.ofString "0123456789").cps.toList)=digit c:=by
 rw[adM];unfold digit;refine sI.mpr ?_;rw[aN];ext b
 ·ext dm
 ·intro h;exact⟨c-48,ZfY,Zb⟩
theorem aet{xs:Za}{z:Int}{j:Nat}{v:Nat}(e:z=(j:Int))(h:xs[j]? =some v):f_ xs z=some v:=by rw[e];exact bQ h
def QO:Sp:=λvs H Q _=>∃b:Nat,vs=[nat b]/\Q Zyi H
section
variable {P:Program}{w:World}{K:PySem.W.Frag}{mg:Zx}{base:Heap}{A:Ad}
theorem aje{f:Addr}{fd:FuncData}(T:Zm)(F:Zo "sign_of" "sign_of" Jd f fd):Z3 Gn QO:=by
 have nd:=RV.nd;refine F.ok RV Zj Zn
 ·obtain⟨b,rfl,_⟩:=h;rfl
 ·obtain⟨b,rfl,k⟩:=h;ext c;refine⟨_,(ao (bg (WG Yp (bE T.aoo rfl) ZP) (ak (ay cW)) bp)
   (ao (bg (WG Yp (bE T.aoj rfl) ZP) (ak (ay cW)) bp)
   (ao (bg (Kd n9 rE Zpm Yp (cR n_ Zpm (XI (aa Zpv ai)))) (ak (ay (bj EG Zpv (cR rD Yp Zpm) Z2))) bp)
   (ao (bg (Kd n9 rE Zpn Yp (cR n_ Zpn (XI (aa Zpw ai)))) (ak (ay (bj EG Zpw (cR rD Yp Zpn) Z2))) bp)
   (ak (ay cW)))))),?_⟩
  have e32:decide (nat b=V.int 32)=decide (b=32):=ZwD;have BD:decide (nat b=V.int 10)=decide (b=10):=ZwD;unfold dX at k;have l1:oW K (.str (Str.ofString "abcdefghijklmnopqrstuvwxyz")) H 26:=⟨Zyu,K5.symm⟩;have l2:oW K (.str ZuO) H 10:=⟨Zyv,NO.symm⟩;ext a;by_cases h1:b=32
  ·rw[af h1]at k;rw[bu (show(b:Int)=32 by omega)];ext e;rw[ahc];exact k
  ·rw[ae h1]at k;rw[aX (show¬(b:Int)=32 by omega)];ext g;by_cases h2:b=10
   ·rw[af h2]at k;rw[bu (show(b:Int)=10 by omega)];ext e;rw[aha];exact k
   ·rw[ae h2]at k;rw[aX (show¬(b:Int)=10 by omega)];ext g;have low:(if decide ((48 :Int)<=(b:Int))=true then∃x,oW K (V.str ZuO) H x/\if decide ((b:Int)<48+(x:Int))=true then
      (Str.ofString "0123456789").length <=sizeLine/\∃x,f_ (Str.ofString "0123456789").cps.toList ((b:Int)-48)=some x/\Q (V.str {cps:=#[x]}) H else Q (V.str (Str.ofString "?")) H
     else Q (V.str (Str.ofString "?")) H)∨(97<=b/\b<123):=by
     by_cases h3:97<=b/\b<123
     ·exact .inr h3
     ·rw[ae h3]at k;refine .inl ?_;by_cases h4:48<=b
      ·rw[bu (show(48 :Int)<=(b:Int) by omega)];refine aI ⟨10,l2,?_⟩;by_cases h5:b<58
       ·rw[bu (show(b:Int)<48+((10 :Nat):Int) by omega)];rw[af ⟨h4,h5⟩]at k;refine aI ⟨Zyv,b,?_,k⟩;rw[adM];refine aet (j:=b-48) Zb ?_;rw[cx,zm Zb];show some (b-48+48)=some b;congr 1;omega
       ·rw[aX (show¬(b:Int)<48+((10 :Nat):Int) by omega)];rw[ae Zb]at k;ext g;rw[Qt];exact k
      ·rw[aX (show¬(48 :Int)<=(b:Int) by omega)];rw[ae Zb]at k;ext g;rw[Qt];exact k
    by_cases h3:97<=b
    ·rw[bu (show(97 :Int)<=(b:Int) by omega)];refine aI ⟨26,l1,?_⟩;by_cases h4:b<123
     ·rw[bu (show(b:Int)<97+((26 :Nat):Int) by omega)];rw[af ⟨h3,h4⟩]at k;refine aI ⟨Zyu,b,?_,k⟩;rw[abt];refine aet (j:=b-97) Zb ?_;rw[cx,zm Zb];show some (b-97+97)=some b;congr 1;omega
     ·rw[aX (show¬(b:Int)<97+((26 :Nat):Int) by omega)];exact ZvH
    ·rw[aX (show¬(97 :Int)<=(b:Int) by omega)];exact ZvH
end
theorem aay{α β:Type}{F G:Uu}:∀{l:ZN} {m:Wz},Zce->(∀a b,a∈l->F a b->G a b)->ZgY l m
 |_,_,.nil,_=>.nil
 |_,_,.cons h t,f=>.cons (f _ _ aY h) (aay t λa b ha=>f a b (ZE ha))
theorem aaz{α β γ:Type}{F:Uu}{G:α->γ->Prop}{h:β->γ}:∀{l:ZN} {m:Wz},Zce->(∀a b,b∈m->F a b->G a (h b))->ZgY l (m.map h)
 |_,_,.nil,_=>.nil
 |_,_,.cons e t,f=>.cons (f _ _ aY e) (aaz t λa b hb=>f a b Za1)
section
variable {α:Type}{K:PySem.W.Frag}{a:Addr}{xs:Ze}{zs:ZN}{g:TG}{tt:TT}{te:TE}{vs:Za}{σ:L2.St}{H1:Hp}{Q:VK}
theorem abB(hx:UA)(he:Ziq)(hlen:Ze3)(f:α->Ze)
  (hy:∀(i:Nat) x z H,xs[i]? =some x->zs[i]? =some z->V9->∀(R:ZpF) (S:ZgC),(∀p,H p=none->R Z6 (Vz ZpC))->
   g x (wipe σ vs) H fun σ2 H2=>wipe σ2 vs=wipe σ vs/\tt σ2 H2 λb H3=>if b=true then te σ2 H3 R else S H3)
  (q:∀D H',H1 D=none->V5->(∃rs:List Addr,H' D=some WR/\Paired (λr z=>H' r=some ZpC) rs zs/\∀r∈rs,H1 r=none)->ZdS):
  oX ZdO g tt te vs σ Q H1:=by
 intro D hD;refine Zn6 (λi H=>YH H/\∃rs:List Addr,H D=some WR/\Paired (λr z=>H r=some ZpC) rs (zs.take i)/\∀r∈rs,r≠D/\H1 r=none) ⟨a0 hD,[],au,.nil,λr hr=>Zji⟩ (λi H hi p=>?_) ZtT ?_ ZqN
 ·ext ag;exact Zxy
 ·rintro i x H H' hi ⟨s1,rs,hd,hp,aK⟩ y;ext W;ext cM;refine hy i x z _ ju hz s1 _ _ λp x8=>?_;have E3:p≠D:=λe=>by rw[e,hd]at x8;cases x8
  have oz:H1 p=none:=s1.free x8;ext c;refine⟨W8,by rw[ax λe=>E3 e.symm];exact hd,?_,bV (bV s1 oz) hD (gf (by rw[ax λe=>E3 e.symm];exact hd)),rs++[p],?_,?_,λr hr=>?_⟩
  ·rw[aq,du hp,eY];omega
  ·rw[au,cA];rfl
  ·rw[dA hz];refine qo ?_ (by rw[ax E3,au]);refine aay hp λr z' hr e=>?_;rw[ax (aK r hr).1,ax (cg e x8)];exact e
  ·rcases b8.mp hr with h|h
   ·exact aK r h
   ·rw[bo.mp h];exact⟨E3,oz⟩
 ·obtain⟨s1,rs,hd,hp,jC⟩:=p;rw[eg]at hp;exact q D H hD s1 ⟨rs,hd,hp,λr hr=>(jC r hr).2⟩
end
theorem Im:∀(l acc:Za),TL.fg [10] 0 acc l=match splitBy 10 l with |[]=>[acc]|x::r=>(acc++x)::r
 |[],acc=>by show[acc]=[acc++[]];rw[fc]
 |c::r,acc=>by
  have hp:TL.pre [10] V0=(c==10):=by
   show([c]==[10])=(c==10);by_cases e:c=10
   ·subst e;rfl
   ·have h1:(c==10)=false:=by simpa using e
    rw[h1];simpa using e
  unfold splitBy;by_cases e:c=10
  ·rw[af e,TL.QE (by rw[hp,e];rfl)];show acc::TL.fg [10] 0 [] r=(acc++[])::Xf r;rw[Im r [],fc];cases h:Xf r with
   |nil=>exact ZdW Zks
   |cons x l=>rfl
  ·rw[ae e,TL.QD (by rw[hp];simpa using e),Im r];cases h:Xf r with
   |nil=>exact ZdW Zks
   |cons x l=>
    show(acc++[c]++x)::l=(acc++c::x)::l;rw[eC];rfl
theorem ahl(l:Za):TL.fg [10] 0 [] l=Xf l:=by
 rw[Im];cases h:Xf l with
 |nil=>exact ZdW (lP 10 l)
 |cons x r=>rfl
theorem CD:∀(l:Za) (ws:Yq) (u:Za),(∀c∈l,c=32∨(33<=c/\c<=126))->
  TL.qF (l.foldl TL.iw (ws,u))=ws++((match splitBy 32 l with |[]=>[u]|x::r=>(u++x)::r).filter λw=>w.isEmpty==false)
 |[],ws,u,_=>by
  show TL.qF (ws,u)=ws++([u++[]].filter _);rw[fc];unfold TL.qF;cases u with
  |nil=>simp
  |cons a b=>simp
 |c::r,ws,u,h=>by
  have hr:=λd hd=>h d (ZE hd);rw[wk];rcases h c aY with e|e
  ·subst e;have hs:Unicode.isSpace 32=true:=by decide+kernel
   have e2:UI (32::r)=[]::UI r:=by show(if 32=32 then _ else _)=_;rw[af rfl]
   rw[e2];show TL.qF (r.foldl TL.iw (TL.iw (ws,u) 32))=ws++(((u++[])::UI r).filter _);rw[fc];unfold TL.iw;rw[af hs];cases u with
   |nil=>
    rw[af rfl];have ih:=CD r ws [] hr;unfold TL.iw at ih;rw[ih];cases h2:UI r with
    |nil=>exact Znu
    |cons x l=>simp
   |cons a b=>
    rw[ae Zh];have ih:=CD r (ws++[a::b]) [] hr;unfold TL.iw at ih;rw[ih];cases h2:UI r with
    |nil=>exact Znu
    |cons x l=>simp
  ·have hs:Unicode.isSpace c=false:=TL.al1 e.1 e.2;have e1:TL.iw (ws,u) c=(ws,u++[c]):=by unfold TL.iw;rw[ae (by rw[hs];simp)]
   rw[e1,CD r ws (u++[c]) hr];have e2:UI V0=match splitBy 32 r with |[]=>[[c]]|x::l=>(c::x)::l:=by show(if c=32 then _ else _)=_;rw[ae Zb];rfl
   rw[e2];cases h2:UI r with
   |nil=>exact Znu
   |cons x l=>
    show ws++(((u++[c])++x)::l).filter _=ws++((u++c::x)::l).filter _;rw[eC];rfl
theorem agh{l:Za}(h:∀c∈l,c=32∨(33<=c/\c<=126)):TL.qF (l.foldl TL.iw ([],[]))=Vbwbal.wordsOf l:=by
 rw[CD l [] [] h];unfold Vbwbal.wordsOf;cases h2:UI l with
 |nil=>exact absurd h2 (lP 32 l)
 |cons x r=>rfl
theorem ak8(c:Nat):dX c=10∨dX c=32∨(33<=dX c/\dX c<=126):=by
 unfold dX;split
 ·omega
 ·split
  ·omega
  ·split
   ·omega
   ·split
    ·omega
    ·omega
theorem CZ{sep:Nat}:∀{l x:Za} {c:Nat},x∈WQ l->c∈x->c∈l/\c≠sep
 |[],x,c,hx,hc=>by rw[show splitBy sep []=[[]]from rfl,bo]at hx;rw[hx]at hc;cases hc
 |d::r,x,c,hx,hc=>by
  unfold splitBy at hx;by_cases e:d=sep
  ·rw[af e]at hx;rcases aJ.mp hx with h|h
   ·rw[h]at hc;cases hc
   ·obtain⟨h1,h2⟩:=CZ h hc;exact Zpa
  ·rw[ae e]at hx;cases h2:WQ r with
   |nil=>exact absurd h2 (lP sep r)
   |cons y l=>
    rw[h2]at hx;rcases aJ.mp hx with h|h
    ·rw[h]at hc;rcases aJ.mp hc with q|q
     ·rw[q];exact⟨aY,e⟩
     ·obtain⟨h3,h4⟩:=CZ (show y∈WQ r by rw[h2];exact aY) q;exact⟨ZE h3,h4⟩
    ·obtain⟨h3,h4⟩:=CZ (show x∈WQ r by rw[h2];exact ZE h) hc;exact⟨ZE h3,h4⟩
theorem abX:∀ls:List Za,TL.m6 [] ls=ls.flatten
 |[]=>rfl
 |[p]=>by simp[TL.m6]
 |p::q::r=>by show p++([]++TL.m6 [] (q::r))=p++(q::r).flatten;rw[abX (q::r)];rfl
def atp(H0 H:Hp)(a:Addr)(ls:VW):Prop:=∃rs:List Addr,H a=some WR/\Paired (λr (ws:List Bytes)=>H r=some VD) rs ls/\∀r∈rs,H0 r=none
def Q9:Sp:=λvs H Q _=>∃(a:Addr) (t:Bytes),vs=[.ref a]/\H a=some Zos/\t.length<=4000/\
 ∀(H':Hp) (l:Addr),Zd->H l=none->atp H H' l (Et t)->ZY H'
section
variable {P:Program}{w:World}{K:PySem.W.Frag}{mg:Zx}{base:Heap}{A:Ad}
theorem ajP{f:Addr}{fd:FuncData}(T:Zm)(MF:Zw "sign_of" Gn 1 QO)(F:Zo "lines_of" "lines_of" zX f fd):X8 GG Q9:=by
 have nd:=Sx.nd;refine F.ok Sx Zj Zn
 ·obtain⟨a,t,rfl,_⟩:=h;rfl
 ·obtain⟨a,t,rfl,ha,hlen,k⟩:=h;ext c;refine⟨_,(ao (UQ (aat cW (dW (own:=[("byte",2)]) rfl nd Zgy (show cB O2 (aA zX) _ _ from Yf) Zbf Xc (λ_ _ _ _ _=>(az MF hr rfl (X2 ai))))))
   (ak (ay (dW (own:=[("line",3)]) rfl nd (cf K (ais (pv 1) cW)) (show cB O2 (aA zX) _ _ from cP (by decide+kernel)) (λ_ _ _ _ _=>(aZ 3 nd)) (λ_ _ _ _ _=>fU) (λ_ _ _ _ _=>(aip (pv 3))))))),?_⟩
  ext a;refine⟨UD,e8 (zs:=t) Xe XF Zb Y9 (λb=>Zyi) (λi v b H' hv hb s1 R S bc hS=>?_) (λD H1 hD s1 h1=>?_)⟩
  ·obtain⟨b',fi,rfl⟩:=Zbx;rw[hb]at fi;cases fi
   ext a;exact⟨b,rfl,bc rfl _ ZU⟩
  ·rw[filter_all]at h1;have e0:TL.tl ZnK=[]:=by decide+kernel
   have BD:TL.tl Uj=[10]:=by decide+kernel
   obtain⟨ys,i6⟩:∃ys:List Str,ys=t.map λb=>⟨#[dX b]⟩:=Zs;have hS:TL.tl Zk1=mask t:=by
    rw[TL.join_eq,TL.HX,e0,abX,i6,bz];show(t.map λb=>[dX b]).flatten =t.map dX;clear ha hlen h1 i6 k
    induction t with
    |nil=>rfl
    |cons a r ih=>
     rw[cw,nG,ih];rfl
   have hSl:(Txt.join ZnK ys).length =t.length:=by rw[TL.mZ,hS];exact X3
   have jt:(ys.map λx=>x.length).sum =t.length:=by
    rw[i6,bz];show(t.map λ_=>1).sum =t.length;clear ha hlen h1 i6 hS hSl k
    induction t with
    |nil=>rfl
    |cons a r ih=>
     rw[cw,afq,ih,bb];omega
   refine⟨D,rfl,ys,.inl (ag.of (by rw[h1,i6,bz];rfl)),?_,ZT,by rw[hSl,hsz];omega,λp hp=>⟨p,rfl,⟨_,ag.of au⟩,?_⟩⟩
   ·rw[jt,show(Str.ofString "").length =0 by decide+kernel];omega
   ·have hL:=TL.ahk Zk1 Uj (by rw[BD];simp) (TL.alG ZT);rw[BD,hS,ahl]at hL;have hLl:(Zdc Uj).length <=t.length+1:=by
     have h2:(Zdc Uj).length =(Xf ZkW).length :=by have:=Zaw hL;rw[aq]at this;exact this
     rw[h2];have h3:∀l:List Nat,(Xf l).length <=l.length+1:=by
      intro l
      induction l with
      |nil=>exact ZA
      |cons c r ih=>
       unfold splitBy;split
       ·rw[bb,bb];omega
       ·cases h4:Xf r with
        |nil=>exact ZkG Zks
        |cons x l=>
         rw[h4]at ih;rw[bb,bb]at *;omega
     have h4:=h3 ZkW;ext cY
    have hwd:∀z∈Zdc Uj,(Txt.words z).map V.str=(Vbwbal.wordsOf (TL.tl z)).map aE/\z.length<=t.length:=by
     intro z hz;have cO:TL.tl z∈Xf ZkW:=by rw[←hL];exact Zbh
     have gW:∀c∈TL.tl z,c=32∨(33<=c/\c<=126):=λc hc=>by
      obtain⟨h2,h3⟩:=CZ cO hc;obtain⟨b,_,rfl⟩:=aN.mp h2;rcases ak8 b with h4|h4
      ·exact ZkG h3
      ·exact h4
     refine Zgs
     ·rw[←agh gW,←TL.age,bz];refine gv λu _=>?_;show V.str u=V.str ⟨(TL.tl u).toArray⟩;rw[TL.ak2]
     ·rw[TL.mZ];have h6:∀(l x:Za),x∈Xf l->x.length<=l.length:=by
       intro l
       induction l with
       |nil=>
        intro x hx;rw[show splitBy 10 []=[[]]from rfl,bo]at hx;rw[hx];exact ZA
       |cons c r ih=>
        intro x hx;unfold splitBy at hx;split at hx
        ·rcases aJ.mp hx with q|q
         ·rw[q];exact ZI
         ·have:=ih x q;rw[bb];omega
        ·cases h4:Xf r with
         |nil=>exact ZkG Zks
         |cons y l=>
          rw[h4]at hx ih;rcases aJ.mp hx with q|q
          ·have:=ih y aY;rw[q,bb,bb];omega
          ·have:=ih x Zd6;rw[bb];omega
      have h7:=h6 _ _ cO;ext cY
    refine abB (zs:=Zdc Uj) (ag.of au) X3 Zb (λz=>(Txt.words z).map V.str) (λi v z H' hv hz s2 R S bc=>?_) (λD2 H2 yx s2 h2=>?_)
    ·ext o
     have:=(hwd z Xv).2;ext a;exact⟨by rw[hsz];omega,bc⟩
    ·obtain⟨rs,g1,g2,g3⟩:=h2;have sp:YH (Yr p (.lst ((Zdc Uj).map V.str))):=WD;refine k H2 D2 ((s1.trans sp).trans s2) ((s1.trans sp).free yx) ⟨rs,g1,?_,λr hr=>(s1.trans sp).free (g3 r hr)⟩;have e1:Et t=(Zdc Uj).map λz=>Vbwbal.wordsOf (TL.tl z):=by rw[alp,←hL,bz];rfl
     rw[e1];refine aaz g2 λr z hz e=>?_;rw[e,(hwd z hz).1]
end
end
section
open Vbwbal (splitBy letter digit isName numOf lineOf text)
def IB:Sp:=λvs H Q _=>∃w:Bytes,vs=[aE w]/\w≠[]/\w.length<=5000/\∀H',Zd->Q (.bl (isName w)) H'
def IG:Sp:=λvs H Q _=>∃(a:Addr) (ws:Zz),vs=[.ref a]/\H a=some VD/\(∀w∈ws,w≠[]/\w.length<=5000)/\ws.length<=5000/\∀H',Zd->Q (.bl (ws.all isName)) H'
def Q_:Sp:=λvs H Q _=>∃w:Bytes,vs=[aE w]/\w≠[]/\w.length<=5000/\∀H',Zd->Q (.bl (gB w)) H'
theorem ag9:(Str.ofString "0")=⟨#[48]⟩:=by decide+kernel
theorem tY(w:Bytes):(⟨w.toArray⟩:Str).length =w.length:=by rw[TL.mZ]
theorem acR{w:Bytes}(h:w≠[]):∃c r,w=c::r:=by
 cases w with
 |nil=>exact absurd rfl h
 |cons c r=>exact⟨c,r,rfl⟩
section
variable {P:Program}{w:World}{K:PySem.W.Frag}{mg:Zx}{base:Heap}{A:Ad}
theorem ajU{f:Addr}{fd:FuncData}(T:Zm)(F:Zo "is_name" "is_name" Dv f fd):Z3 B3 IB:=by
 have nd:=SE.nd;refine F.ok SE Zj Zn
 ·obtain⟨w,rfl,_⟩:=h;rfl
 ·obtain⟨w,rfl,aK,hlen,k⟩:=h;ext c;obtain⟨c,r,hw⟩:=acR aK;refine⟨_,(ao (bg (PW.pt (pB (bN pG Zbk (bE T.aoh rfl) ZP) (pA (bN aiN (bj EG Yp aR Z2) Zpv rfl)))) Uw bp)
   (ak (ay (bW (vJ K rfl) (by rfl) T.rK vQ (aa (dW (own:=[("sign",1)]) rfl nd (Kg (pv 0)) (show cB ae9 (aA Dv) _ _ from cP (by decide+kernel)) (λ_ _ _ _ _=>(aZ 1 nd)) (λ_ _ _ _ _=>fU) (λ_ _ _ _ _=>(aap (eE Kt (pv 1) (rA T.FE rfl) rfl) (mW (eE Kt (pv 1) (rA T.FF rfl) rfl))))) ai))))),?_⟩
  have l1:ZvS:=Zyc;have yk:f_ (⟨w.toArray⟩:Str).cps.toList 0=some c:=ZdH (by rw[hw];rfl);unfold isName at k;simp! [aE];refine⟨_,l1,?_⟩;by_cases hl:w.length<=12
  ·rw[aX (show¬(12 :Int)<(w.length:Int) by omega)];refine aF ⟨Zl9,c,yk,?_⟩;rw[abu];have hh:w.head?.any letter=letter c:=by rw[hw];rfl
   rw[hh,bu hl,wG]at k;cases hc:letter c with
   |false=>
    rw[hc]at k;exact aI UO
   |true=>
    rw[hc,fm]at k;ext g;refine Zrh (λc=>.bl (letter c||digit c)) Zuc W9
    ·simp! [abu,adN];have:=bc rfl H' ZU;cases e:letter c with
     |true=>
      rw[e]at this;exact aI this
     |false=>
      rw[e]at this;exact aF this
    ·ext F;refine⟨_,rfl,w.map λc=>letter c||digit c,ZcH,?_⟩;rw[mC];exact Wx
  ·rw[bu (show(12 :Int)<(w.length:Int) by omega)];rw[aX hl,Hr,Hr]at k;exact aI UO
theorem akl{f:Addr}{fd:FuncData}(T:Zm)(sE:ZxK)(F:Zo "are_names" "are_names" DG f fd):X8 GV IG:=by
 have nd:=S4.nd;refine F.ok S4 Zj Zn
 ·obtain⟨a,ws,rfl,_⟩:=h;rfl
 ·obtain⟨a,ws,rfl,ha,u7,hlen,k⟩:=h;refine⟨_,(ak (ay (ZeG (aa (dW (own:=[("word",1)]) rfl nd Zgy (show cB afk (aA DG) _ _ from Yf) ZeS Xc (λ_ _ _ _ _=>(az sE hr rfl (Xi ai)))) ai)))),?_⟩;ext a;refine⟨UD,ZuC (λw=>.bl (isName w)) (λi v w H' hv hw s1 R S bc hS=>?_) W9⟩
  ·obtain⟨w',hw',rfl⟩:=Zbx;rw[hw]at hw';cases hw'
   obtain⟨h1,h2⟩:=u7 w (bI hw);ext a;exact⟨w,rfl,h1,h2,λH2 s2=>bc rfl _ s2⟩
  ·ext F;refine⟨_,rfl,ws.map isName,ZcH,?_⟩;rw[mC];exact Wx
theorem ajV{f:Addr}{fd:FuncData}(T:Zm)(F:Zo "is_most" "is_most" Dx f fd):Z3 GH Q_:=by
 have nd:=SF.nd;refine F.ok SF Zj Zn
 ·obtain⟨w,rfl,_⟩:=h;rfl
 ·obtain⟨w,rfl,aK,hlen,k⟩:=h;ext c;obtain⟨c,r,hw⟩:=acR aK;refine⟨_,(ao (bg (PW.pt (pB (bN pG Zbk aR ZP) (pA (eR (Z4 (ZeG (aa (dW (own:=[("sign",1)]) rfl nd (Kg Yp) (show cB afa (aA Dx) _ _ from Yf) ZeS Xc (λ_ _ _ _ _=>(eE Kt ZC Zpw rfl))) ai)) Z0))))) Uw bp)
   (ak (ay (aap (eE cS (bW (c6 K) (by rfl) T.cM cU (aa (pv 0) ai)) aR (bB _)) (mW (eE xx (bj EG (pv 0) aR (λ_ _=>rfl)) cW (bB _))))))),?_⟩
  have l1:∀H,ZvS:=λH=>Zyc;have yk:f_ (⟨w.toArray⟩:Str).cps.toList 0=some c:=ZdH (by rw[hw];rfl);unfold gB at k;simp! [aE];refine⟨_,l1 H,?_⟩;by_cases hl:w.length<=2
  ·rw[aX (show¬(2 :Int)<(w.length:Int) by omega)];rw[bu hl,fm]at k;ext g;refine Zrh (λc=>.bl (digit c)) Zuc W9
   ·simp! [adN];exact bc rfl H' ZU
   ·ext F;refine⟨_,rfl,w.map digit,ZcH,?_⟩;rw[mC];have ea:(w.all (id∘digit))=w.all digit:=rfl;rw[ea];cases hd:w.all digit with
    |false=>
     rw[hd]at k;exact⟨_,rfl,aI Wx⟩
    |true=>
     rw[hd,fm]at k;refine⟨_,rfl,aF ?_⟩;ext a;refine⟨_,l1 H',?_⟩;by_cases h1:w.length=1
     ·rw[af (show(w.length:Int)=1 by omega)];rw[bu h1]at k;exact Wx
     ·rw[ae (show¬(w.length:Int)=1 by omega)];rw[aX h1,Hq]at k;refine⟨Zl9,c,yk,?_⟩;have e2:(!decide ((⟨#[c]⟩:Str)=Str.ofString "0"))=decide (w.head?≠some 48):=by
       rw[ag9,hw];show(!decide ((⟨#[c]⟩:Str)=⟨#[48]⟩))=decide (some c≠some 48);by_cases e:c=48
       ·subst e;rfl
       ·have hn:¬(⟨#[c]⟩:Str)=⟨#[48]⟩:=λq=>e (by rw[ua]at q;exact q);rw[aX hn,bu (show some c≠some 48 from λq=>e (bY q))];rfl
      rw[e2];exact Wx
  ·rw[bu (show(2 :Int)<(w.length:Int) by omega)];rw[aX hl,gK]at k;exact aI UO
end
end
section
open Vbwbal (splitBy letter digit isName numOf lineOf text)
abbrev as2:Zc:=["words"]
theorem SH:aV as2 GI (aA JD):=Zl
theorem ofString_eq(s:String):Str.ofString s=⟨(text s).toArray⟩:=TL.adx (by rw[TL.agR];rfl)
theorem qP(s:String):V.str Zff=aE (text s):=by rw[ofString_eq];rfl
theorem eW(w:Bytes)(s:String):decide (aE w=V.str Zff)=decide (w=text s):=by rw[qP];exact sI.mpr (by rw[ahd])
theorem eQ(w:Bytes)(z:Str):qR (aE w) Zd5=true:=rfl
def fZ(ws:Zz):Bool:=
 if ws.getD 0 []=text "role"then decide (ws.length=2)&&isName YU
 else if ws.getD 0 []=text "person"then decide (2<=ws.length)&&(ws.drop 1).all isName
 else if ws.getD 0 []=text "step"then decide (4<=ws.length)&&(isName YU&&(decide (ws.getD 2 []=text "by")&&(ws.drop 3).all isName))
 else if ws.getD 0 []=text "after"∨ws.getD 0 []=text "unlike"∨ws.getD 0 []=text "alike"then decide (ws.length=3)&&(ws.drop 1).all isName
 else if ws.getD 0 []=text "most"then decide (ws.length=3)&&(isName YU&&gB Ut)
 else false
structure oP(ws:Zz):Prop where
 ne:ws≠[]
 word:∀w∈ws,w≠[]/\w.length<=5000
 len:ws.length<=5000
theorem BE(xs:Ze)(k:Nat):ja xs Zo5 none=xs.drop k:=by
 unfold ja;rw[HT.DQ,HT.Tt];by_cases h:k<=xs.length
 ·rw[OV h];exact we (by rw[mB];exact ZA)
 ·rw[Nat.min_eq_right Zb,Hg,List.drop_eq_nil_of_le Zb,List.take_nil]
theorem kQ{ws:Zz}{k:Nat}(h:k<ws.length):(ws.map aE)[k]? =some (aE Zo8):=by rw[cx,jN,fP h];rfl
theorem qE{ws:Zz}(ok:oP ws){k:Nat}(h:k<ws.length):ws.getD k []≠[]/\(ws.getD k []).length <=5000:=by
 have:ws.getD k []∈ws:=by rw[jN,fP h];exact afw h
 exact ok.word _ this
def Ra:Sp:=λvs H Q _=>∃(a:Addr) (ws:Zz),vs=[.ref a]/\H a=some VD/\oP ws/\∀H',Zd->Q (.bl (fZ ws)) H'
theorem NB(a:Bytes)(s:String):jI (.str Zff) (aE a)=decide (a=text s):=by
 rw[qP];show((⟨(text s).toArray⟩:Str)==⟨a.toArray⟩)=_;by_cases h:a=text s
 ·subst h;rw[bu rfl];exact sN _
 ·rw[aX h];refine ip.mpr λq=>h ?_;rw[str_inj]at q;exact q.symm
section
variable {P:Program}{w:World}{K:PySem.W.Frag}{mg:Zx}{base:Heap}{A:Ad}
theorem ajY{f:Addr}{fd:FuncData}(T:Zm)(sE:ZxK)(Bq:Zw "are_names" GV 2 IG)(MT:Zw "is_most" GH 1 Q_)(F:Zo "has_form" "has_form" JD f fd):VO GI Ra:=by
 have nd:=SH.nd;refine F.ok SH Zj Zn
 ·obtain⟨a,ws,rfl,_⟩:=h;rfl
 ·obtain⟨a,ws,rfl,ha,ok,k⟩:=h;ext c;refine⟨_,(ao (Zib (ak (ay (Zm5 (mW Zl8)))) bp)
   (ao (Zib (ak (ay (Zx5 Zlb))) bp)
   (ao (Zib (ak (ay (Zx5 (lS Zl8 (lS (eE cS ZeC cW ZP) Zlb))))) bp)
   (ao (bg (bN U1 ZeC (D0 T.adb rfl) rfl) (ak (ay (Zm5 Zlb))) bp)
   (ao (Zib (ak (ay (Zm5 (lS Zl8 (mW (az MT hr rfl (aa ZeC ai))))))) bp)
   (ak (ay kh))))))),?_⟩
  ext bc;ext aY;have gk:∀k:Nat,k<ws.length->f_ Zds ((k:Nat):Int)=some (aE Zo8):=λk h=>bQ (kQ h);have Az:∀H,H a=some VD->oW K ZX H ws.length:=λH h=>.inl ⟨_,ZaV,(aq _).symm⟩;have names:∀(n:Nat) (H1:Hp) (Q1:VK),Zcn->(∀H',Zd->Q1 (.bl ((ws.drop n).all isName)) H')->∀p,H1 p=none->IG ([V.ref p]++[]) (Yr p (.lst (ja Zds (some (n:Int)) none))) Q1 E0:=λn H1 Q1 s1 h p hp=>by
   refine⟨p,ws.drop n,rfl,?_,λw hw=>ok.word w (List.mem_of_mem_drop hw),?_,λH' s2=>h H' ((s1.trans WD).trans s2)⟩
   ·rw[au,BE,Co]
   ·rw[mB];have:=ok.len;omega
  unfold fZ at k;simp! [eQ,eW];ext ah;ext ai
  ·rw[af h1]at k;simp! [h1];refine Zfe;by_cases hl:ws.length=2
   ·rw[bu (show(ws.length:Int)=2 by omega)];rw[bu hl,fm]at k;exact aI ⟨_,Xe,_,gk 1 Zb,_,rfl,(qE ok Zb).1,(qE ok Zb).2,k⟩
   ·rw[aX (show¬(ws.length:Int)=2 by omega)];ext U
  ·rw[ae h1]at k;simp! [h1];ext ah;ext S
   ·rw[af h2]at k;simp! [h2];refine Zfe;by_cases hl:2<=ws.length
    ·rw[bu (show(2 :Int)<=(ws.length:Int) by omega)];ext cx
    ·rw[aX (show¬(2 :Int)<=(ws.length:Int) by omega)];ext U
   ·rw[ae h2]at k;simp! [h2];ext ah;ext T
    ·rw[af h3]at k;simp! [h3];refine Zfe;by_cases hl:4<=ws.length
     ·rw[bu (show(4 :Int)<=(ws.length:Int) by omega)];ext bY;cases e:isName YU with
      |false=>
       rw[e,gK]at k;exact aF Zkr
      |true=>
       rw[e,fm]at k;ext e;refine⟨_,ZcW,_,gk 2 Zb,?_⟩;simp! [eQ,eW];by_cases h4:ws.getD 2 []=text "by"
       ·rw[bu h4,fm]at k;rw[bu h4];exact aI ⟨_,ZcW,names 3 H1 Q s1 k⟩
       ·rw[aX h4,gK]at k;rw[aX h4];exact aF Zkr
     ·rw[aX (show¬(4 :Int)<=(ws.length:Int) by omega)];ext U
    ·rw[ae h3]at k;simp! [h3];refine⟨_,Xe,_,g0,A.lT,_,rfl,.inr (T.lT H),rfl,rfl,?_⟩;have ein:m8 (aE Um) [.str "after",.str "unlike",.str "alike"]=decide (ws.getD 0 []=text "after"∨ws.getD 0 []=text "unlike"∨ws.getD 0 []=text "alike"):=by unfold m8;rw[ka,ka,ka,List.any_nil,NB,NB,NB,PD];by_cases q1:ws.getD 0 []=text "after"<;>by_cases q2:ws.getD 0 []=text "unlike"<;>by_cases q3:ws.getD 0 []=text "alike"<;>simp[q1,q2,q3]
     rw[ein];refine Yu;by_cases h4:ws.getD 0 []=text "after"∨ws.getD 0 []=text "unlike"∨ws.getD 0 []=text "alike"
     ·rw[af h4]at k;rw[bu h4];ext e;refine Zfe;by_cases hl:ws.length=3
      ·rw[bu ZtQ];ext cx
      ·rw[aX Zts];ext U
     ·rw[ae h4]at k;rw[aX h4];ext g;ext ah;by_cases h5:ws.getD 0 []=text "most"
      ·rw[af h5]at k;simp! [h5];refine Zfe;by_cases hl:ws.length=3
       ·rw[bu ZtQ];ext bY;cases e:isName YU with
        |false=>
         rw[e,gK]at k;exact aF Zkr
        |true=>
         rw[e,fm]at k;ext e;exact⟨_,ZcW,_,gk 2 Zb,_,rfl,(qE ok Zb).1,(qE ok Zb).2,λH2 s2=>k H2 XJ⟩
       ·rw[aX Zts];ext U
      ·rw[ae h5]at k;simp! [h5];exact UO
end
end
section
section
variable {X:Cx}
def ahZ:R2:=λx y H Q=>∃t q a b ps,x=V.ref t/\y=V.ref q/\H t=some (.tup [nat a,nat b])/\g8 H q ps/\Q (.bl (ps.contains (a,b))) H
def uF(H:Hp)(a b:Int):Value->Bool
 | .ref r=>(match H r with
  |some (.tup [.int i,.int j])=>(i==a)&&((j==b)&&true)
  |_=>false)
 |_=>false
theorem aiT(hu:ZnP):Zif ahZ:=by
 ext m;obtain⟨t,q,a,b,ps,rfl,rfl,ht,⟨rs,hq,dv⟩,hQ⟩:=h;cases rx
 cases ry
 obtain⟨its,rv,pl,hz⟩:=I.list (ag.of hq);have dp:∀(r:Addr) (p:Xr),H r=some ZlA->Dp X.K H Yl Zuu:=λr p h=>.tup (bM.of h) (Zpb (Zpb .nil));obtain⟨bs,r2⟩:=Zgg _ Zb1 Zb1 (dp t (a,b) ht) rfl;have key:∀(rs:Zy) (its:Zq) (ps:ZV),Vals W8 its->Zsp ps->
   (∀w∈its,SeqAt.EqAt X.A.in1 s w Zb1 (ZdA w))/\its.any ZdA=ps.contains (a,b):=by
  intro rs its ps hv hp
  induction hp generalizing its with
  |nil=>
   cases hv
   exact⟨λw hw=>(by cases hw),rfl⟩
  |cons h t' ih=>
   rename_i r p l1 l2;cases hv with
   |cons r1 rv1=>
    cases r1
    obtain⟨h1,h2⟩:=ih _ rv1;have e1:ZdA Yl=(((p.1:Int)==(a:Int))&&(((p.2:Int)==(b:Int))&&true)):=by unfold uF;simp only[h];rfl
    refine⟨λw hw=>?_,?_⟩
    ·rcases aJ.mp hw with e|hw
     ·subst e;obtain⟨as,r3⟩:=Zgg _ Yl Yl (dp r p h) rfl;have:=SeqAt.eqAt_reads Zuu (.tuple [.int a,.int b]) X.A.in1 s _ _ _ _ r3 r2 rfl rfl (by have h1:X.A.in1.units=X.A.units+1:=rfl;have h2:min (PyData.tuple [PyData.int p.1,PyData.int p.2]).depth (PyData.tuple [PyData.int a,PyData.int b]).depth <=10:=cq (Nat.min_le_left _ _) (by show(PyData.tuple [PyData.int (p.1:Int),PyData.int (p.2:Int)]).depth <=10;simp[PyData.depth,PyData.depthAll]);omega)
      rw[e1];ext d
     ·exact h1 w hw
    ·rw[ka,h2,Hh,e1];congr 1;rw[wG];by_cases q1:p.1=a
     ·by_cases q2:p.2=b
      ·subst q1 q2;simp
      ·have e3:((p.2:Int)==(b:Int))=false:=ip.mpr λz=>q2 (mF z);have e4:((a,b)==p)=false:=ip.mpr λz=>q2 (Zf5 z).symm;rw[e3,e4,Hr]
     ·have e3:((p.1:Int)==(a:Int))=false:=ip.mpr λz=>q1 (mF z);have e4:((a,b)==p)=false:=ip.mpr λz=>q1 (Zf4 z).symm;rw[e3,e4,gK]
 obtain⟨k1,k2⟩:=key rs its ps rv dv;refine SeqAt.in_listAt ZdA pl.isList (λw hw=>k1 w Zx0) Ze0;rw[show its.toArray.any ZdA=its.any ZdA by simp,k2];exact hQ
end
end
section
open Vbwbal (splitBy letter digit isName numOf lineOf text stepNames personNames indexOf)
abbrev aeW:Zc:=["names","most","words","known","wanted","name"]
theorem RH:aV aeW Ge (aA Dg):=Zl
abbrev asO:Zc:=["plan","words","first","second"]
theorem Si:aV asO BY (aA Jq):=Zl
abbrev asp:Zc:=["plan","words","pair","told"]
theorem RG:aV asp Gd (aA IT):=Zl
theorem Ig(l:Zz):(l.map aE).all il=true:=by rw[mC];exact dh.mpr λ_ _=>rfl
theorem NG(a b:Bytes):jI (aE a) (aE b)=(b==a):=by
 show((⟨a.toArray⟩:Str)==⟨b.toArray⟩)=(b==a);by_cases h:b=a
 ·subst h;rw[sN,sN]
 ·rw[ip.mpr h];refine ip.mpr λq=>h ?_;rw[str_inj]at q;exact q.symm
theorem acb(x:Bytes)(l:Zz):m8 (aE x) (l.map aE)=l.contains x:=by
 unfold m8;rw[wq]
 induction l with
 |nil=>rfl
 |cons a r ih=>
  rw[ka,Hh,ih];congr 1;exact NG a x
theorem J5{K:PySem.W.Frag}{H:Hp}{q:Addr}{l:Zz}{x:Bytes}{Q:VK}(h:Zqh)(hQ:Q (.bl (l.contains x)) H):q_ K false (aE x) XR H Q:=
 ⟨q,_,rfl,.inl ZaV,rfl,Ig _,by rw[acb];exact hQ⟩
theorem TR{K:PySem.W.Frag}{H:Hp}{q:Addr}{l:Zz}{x:Bytes}{Q:VK}(h:Zqh)(hQ:Q (.bl (!l.contains x)) H):q_ K true (aE x) XR H Q:=
 ⟨q,_,rfl,.inl ZaV,rfl,Ig _,by rw[acb];exact hQ⟩
theorem DV{K:PySem.W.Frag}{H:Hp}{q:Addr}{l:Zz}{x:Bytes}{Q:VK}(h:Zqh)(hx:x∈l)(hQ:Q (nat ZwY) H):J8 K XR [aE x] H Q:=by
 have bG:l.findIdx ZqP<l.length:=Zyl;refine⟨q,_,aE x,l.findIdx λy=>y==x,aE l[l.findIdx λy=>y==x],rfl,rfl,ZaV,rfl,Ig _,?_,?_,λm z hm hz=>?_,hQ⟩
 ·rw[cx,fP bG];rfl
 ·rw[NG];have:=List.findIdx_getElem (p:=λy=>y==x) (w:=bG);rw[oO]at this;rw[this];exact sN x
 ·obtain⟨y,hy,rfl⟩:=get_map hz;rw[NG];have h1:=List.not_of_lt_findIdx hm;have h2:l[m]? =some l[m]:=fP Zb;rw[hy]at h2;have h3:y=l[m]:=bY h2;rw[h3];refine ip.mpr λe=>?_;rw[←e,sN]at h1;cases h1
theorem Li{l:Zz}{x:Bytes}(h:l.contains x=true):indexOf l x=some ZwY:=by unfold indexOf;rw[af h]
theorem Lh{l:Zz}{x:Bytes}(h:l.contains x=false):indexOf l x=none:=by unfold indexOf;rw[ae (by rw[h];simp)]
def jq(ns:Zz)(most:Nat)(w:Bytes)(ks xs:Zz):Nat:=if ns.contains w=true then 2 else if(xs.all λx=>Ux)=false then 3 else if ns.length=most then 5 else 0
def QG:Sp:=λvs H Q _=>∃(n w kn wa:Addr) (ns ws ks xs:Zz) (most:Nat),vs=[.ref n,nat most,.ref w,.ref kn,.ref wa]/\H n=some (.lst (ns.map aE))/\H w=some VD/\H kn=some (.lst (ks.map aE))/\H wa=some (.lst (xs.map aE))/\
 1<ws.length/\xs.length<=5000/\∀H',Zd->Q (nat (jq ns most YU ks xs)) H'
def bK(P:Plan)(w:Bytes):Nat:=(stepNames P).findIdx λy=>y==w
def bP(P:Plan)(ws:Zz):Nat×Nat:=if ws.getD 0 []=text "after"then(Y0 YU,Y0 Ut)else(min (Y0 YU) (Y0 Ut),max (Y0 YU) (Y0 Ut))
def Iw(A:Ad):Sp:=λvs H Q _=>∃(p w:Addr) (i:aW) (P:Plan) (ws:Zz),vs=[.ref p,.ref w]/\Y4/\H w=some VD/\2<ws.length/\ws.getD 1 []∈stepNames P/\ws.getD 2 []∈stepNames P/\
 ∀(H':Hp) (t:Addr),Zd->H t=none->H' t=some (.tup [nat (Yj ws).1,nat (Yj ws).2])->Q Zb1 H'
section
variable {P:Program}{w:World}{K:PySem.W.Frag}{mg:Zx}{base:Heap}{A:Ad}
theorem ai0{f:Addr}{fd:FuncData}(T:Zm)(F:Zo "wrong_newcomer" "wrong_newcomer" Dg f fd):Z3 Ge QG:=by
 have nd:=RH.nd;refine F.ok RH Zj Zn
 ·obtain⟨n,w,kn,wa,ns,ws,ks,xs,most,rfl,_⟩:=h;rfl
 ·obtain⟨n,w,kn,wa,ns,ws,ks,xs,most,rfl,hn,hw,hk,hx,hl,ku,k⟩:=h;refine⟨_,(ao (bg (bN U1 (Wk ZR aR Z2) Yp rfl) ZvJ bp)
   (ao (bg (eR (Z4 (ZeG (aa (dW (own:=[("name",5)]) rfl nd (ZS YB) (show cB aeW (aA Dg) _ _ from Yf) Zmq Xc (λ_ _ _ _ _=>Zxn)) ai)) Z0)) Zv5 bp)
   (ak (ay (xn (bN cS (bW (c6 K) (by rfl) T.cM cU (aa (pv 0) ai)) (pv 1) (bB _)) (bE T.ac9 rfl) aR))))),?_⟩
  unfold jq at k;ext a;refine⟨_,ZdX,_,ZkH (kQ hl),J5 hn Yu⟩;cases h1:ns.contains YU with
  |true=>
   rw[af h1]at k;exact aI UO
  |false=>
   rw[ae (by rw[h1];simp)]at k;refine aF ⟨⟨_,ag.of hx⟩,e8 (zs:=xs) (ag.of hx) X3 Zb Y9 (λx=>.bl Ux) (λi v x H' hv ju s1 R S bc hS=>?_) W9⟩
   ·obtain⟨x',aci,rfl⟩:=Zbx;rw[ju]at aci;cases aci
    ext a;exact J5 (s1.at hk) Zc5
   ·ext F;refine⟨_,rfl,xs.map λx=>Ux,ZcH,_,rfl,?_⟩;rw[mC];have ea:(xs.all (id∘λx=>Ux))=xs.all λx=>Ux:=rfl;rw[ea];cases h2:(xs.all λx=>Ux)with
    |false=>
     rw[af h2]at k;exact aI Wx
    |true=>
     rw[ae (by rw[h2];simp)]at k;refine aF ⟨ns.length,.inl ⟨_,ag.of (s1.at hn),(aq _).symm⟩,?_⟩;by_cases h3:ns.length=most
     ·rw[af h3]at k;rw[bu h3];exact aI Wx
     ·rw[ae h3]at k;rw[aX h3];exact aF Wx
theorem ak4(i j:Nat):V.int (if(j:Int)<(i:Int)then(j:Int)else(i:Int))=nat (min i j):=by unfold nat;congr 1;split<;>omega
theorem ak7(i j:Nat):V.int (if(j:Int)>(i:Int)then(j:Int)else(i:Int))=nat (max i j):=by unfold nat;congr 1;split<;>omega
theorem ajC{f:Addr}{fd:FuncData}(T:Zm)(F:Zo "pair_of" "pair_of" Jq f fd):Z3 BY (Iw A):=by
 have nd:=Si.nd;refine F.ok Si Zj Zn
 ·ext am
 ·obtain⟨p,w,i,P,ws,rfl,hP,hw,hl,m1,m2,k⟩:=h;ext c;refine⟨_,(ao (WN (Zmy Zow))
   (ao (XW (Zmy Zow))
   (ao (bg Zab (ak (ay (Kk (X2 X7)))) bp)
   (ak (ay (Kk (aa (bW (arh rfl) (by rfl) T.KJ aeq (aa (pv 2) (aa (pv 3) ai))) (aa (bW (ari rfl) (by rfl) T.aa2 arN (aa (pv 2) (aa (pv 3) ai))) ai)))))))),?_⟩
  have nn:=Uo;have aT:H i.s=some ZlS:=by rw[hP.steps];unfold Vbwbal.stepNames;rw[bz];rfl
  unfold bP at k;simp! [hP.ins,T.bU,nn,k0,cQ aT];refine⟨_,ZdX,_,ZkH Zb2,DV aT m1 ?_⟩;simp! [hP.ins,T.bU,nn,k0,cQ aT];refine⟨_,ZdX,_,bQ (j:=2) Zb2,DV aT m2 ?_⟩;ext a;refine⟨_,ZdX,_,ZdH Zb2,?_⟩;simp! [eQ,eW];by_cases h0:ws.getD 0 []=text "after"
  ·rw[af h0]at k;rw[bu h0];refine aI ⟨(by rw[hsz];decide),λt ht=>k _ t (a0 ht) ht au⟩
  ·rw[ae h0]at k;rw[aX h0];refine aF ⟨(by rw[hsz];decide),λt ht=>?_⟩;rw[ak4,ak7];exact k _ t (a0 ht) ht au
end
def toldOf(P:Plan)(w:Bytes):ZV:=if w=text "after"then P.after else if w=text "unlike"then P.unlike else P.alike
def kindB(P:Plan)(ws:Zz)(rb:Bool):Nat:=
 if((stepNames P).contains YU&&(stepNames P).contains Ut)=false then 3
 else if(Yj ws).1=(Yj ws).2 then 4
 else if(Xt Um).contains (Yj ws)=true then 2
 else if(decide (ws.getD 0 []=text "after")&&rb)=true then 4
 else if(Xt Um).length =12 then 5 else 0
def QF(A:Ad):Sp:=λvs H Q _=>∃(p w:Addr) (i:aW) (P:Plan) (ws:Zz),vs=[.ref p,.ref w]/\Y4/\ZF/\H w=some VD/\2<ws.length/\
 (ws.getD 0 []=text "after"∨ws.getD 0 []=text "unlike"∨ws.getD 0 []=text "alike")/\
 ∀(H':Hp) (rb:Bool),Zd->(ws.getD 0 []=text "after"->(stepNames P).contains YU=true->(stepNames P).contains Ut=true->(rb=true↔Reach P.after (Yj ws).2 (Yj ws).1))->Q (nat (kindB P ws rb)) H'
theorem agU:text "unlike"≠text "after":=by decide+kernel
theorem agT:text "alike"≠text "after":=by decide+kernel
theorem agS:text "alike"≠text "unlike":=by decide+kernel
theorem agN{A:Ad}{H:Hp}{p:Addr}{i:aW}{P:Plan}(hP:Y4){w:Bytes}(h:w=text "after"∨w=text "unlike"∨w=text "alike"):∃a,Zg2 (aE w) Zgr/\U3 (Xt w):=by
 unfold toldOf;rcases h with h|h|h
 ·subst h;rw[af rfl,←qP];exact⟨i.a,Zmn hP.pairs,hP.after⟩
 ·subst h;rw[ae agU,af rfl,←qP];exact⟨i.u,ZeP hP.pairs,hP.unlike⟩
 ·subst h;rw[ae agT,ae agS,←qP];exact⟨i.l,ZeR hP.pairs,hP.alike⟩
section
variable {P:Program}{w:World}{K:PySem.W.Frag}{mg:Zx}{base:Heap}{A:Ad}
theorem aiZ{f:Addr}{fd:FuncData}(T:Zm)(yE:Zv3)(MZ:Zw "comes_after" GO 2 (Rj A))(F:Zo "wrong_pair" "wrong_pair" IT f fd):VO Gd (QF A):=by
 have nd:=RG.nd;refine F.ok RG Zj Zn
 ·ext am
 ·obtain⟨p,w,i,P,ws,rfl,hP,wf,hw,hl,hk,k⟩:=h;ext Q;refine⟨_,(ao (bg (PW.pt (pB (ZgG ZcE Ym rfl) (pA (ZgG ZcE Ym rfl)))) Zv5 bp)
   (ao (WN (az yE hr rfl (ZL Wr)))
   (ao (XW (Uc Ym ZcE Z2))
   (ao (bg (WG ZhZ ZhZ ZP) ZvI bp)
   (ao (bg (bN (aiT hr.units) ZR ZG rfl) ZvJ bp)
   (ao (bg (PW.pt (Ka Zab (J_ (Z4 (az MZ hr rfl (ZL (aa ZhZ (aa ZhZ ai)))) Z0)))) ZvI bp)
   (ak (ay (xn (bN cS (bW (c6 K) (by rfl) T.cM cU (aa (pv 3) ai)) (bE T.aoc rfl) (bB _)) (bE T.ac9 rfl) aR))))))))),?_⟩
  have n1:=Uo;have n2:=Zaq;have aT:H i.s=some ZlS:=by rw[hP.steps];unfold Vbwbal.stepNames;rw[bz];rfl
  have Lr:(stepNames P).length <=7:=by unfold Vbwbal.stepNames;rw[aq];exact wf.steps
  unfold kindB at k;have no3:((stepNames P).contains YU&&(stepNames P).contains Ut)=false->Q (V.int 3) H:=λe=>by have:=k H false ZU (λ_ h1 h2=>by rw[h1,h2]at e;cases e);rw[af e]at this;exact this
  simp! [hP.ins,T.bU,n1,k0];refine⟨_,ZdX,_,ZkH Zb2,TR aT Yu⟩;cases h1:(stepNames P).contains YU with
  |false=>exact aI (no3 (by rw[h1];rfl))
  |true=>
   ext g;simp! [hP.ins,T.bU,n1,k0];refine⟨_,ZdX,_,bQ (j:=2) Zb2,TR aT Yu⟩;cases h2:(stepNames P).contains Ut with
   |false=>exact aI (no3 (by rw[h1,h2];rfl))
   |true=>
    rw[h1,h2]at k;ext g;have m1:=bx.mp h1;have m2:=bx.mp h2;have bG:∀x∈stepNames P,Y0 x<7:=λx hx=>hX Zyl Lr;refine⟨p,w,i,P,ws,rfl,hP,hw,hl,m1,m2,λH1 t s1 xS ht=>?_⟩;have fj:=ZbP;have gQ:=s1.at hw;obtain⟨a,Bd,E2⟩:=agN fj hk;have t0:f_ [nat (Yj ws).1,nat (Yj ws).2] 0=some (nat (Yj ws).1):=bQ (j:=0) rfl;have t1:f_ [nat (Yj ws).1,nat (Yj ws).2] 1=some (nat (Yj ws).2):=bQ (j:=1) rfl;have amI:(Yj ws).2<7:=by
     have q1:=bG _ m1;have q2:=bG _ m2;unfold bP;split
     ·exact q2
     ·show max _ _<7;omega
    have fin:∀(H':Hp),V5->(∀rb,(ws.getD 0 []=text "after"->rb=false)->Q (nat (if(Xt Um).length =12 then 5 else 0)) H')->∃n,oW K ZX H' n/\if decide ((n:Int)=12)=true then Q (V.int 5) H' else Q (V.int 0) H':=λH' s2 hq=>by
     obtain⟨rs,g1,g2⟩:=E2;have hn:=du g2;refine⟨rs.length,.inl ⟨_,ag.of (s2.at g1),(aq _).symm⟩,?_⟩;have cF:=hq false Z0;by_cases e:(Xt Um).length =12
     ·rw[af e]at cF;rw[bu (show((rs.length:Nat):Int)=12 by omega)];exact aI cF
     ·rw[ae e]at cF;rw[aX (show¬((rs.length:Nat):Int)=12 by omega)];exact aF cF
    simp! [fj.ins,T.bU,n2,n8];refine⟨_,ZbY,_,ZdH Zb2,_,Bd,_,ZdY,_,t0,_,ZdY,_,t1,uc,?_⟩;have ed:decide (nat (Yj ws).1=nat (Yj ws).2)=decide ((Yj ws).1=(Yj ws).2):=sI.mpr (by rw[uH]);rw[ed];obtain⟨rb0,hrb0⟩:∃rb0:Bool,rb0=true↔Reach P.after (Yj ws).2 (Yj ws).1:=by
     ext cV
     ·exact⟨true,λ_=>h,λ_=>rfl⟩
     ·exact⟨false,λe=>ZbA,λe=>ZdV h⟩
    have Fn:¬(true&&true)=false:=by simp
    by_cases e1:(Yj ws).1=(Yj ws).2
    ·rw[bu e1];have:=Zmc;rw[ae Fn,af e1]at this;exact aI this
    ·rw[aX e1];refine aF ⟨t,a,_,_,_,rfl,rfl,ht,E2,_,rfl,?_⟩;cases e2:(Xt Um).contains Zw9 with
     |true=>
      have:=Zmc;rw[ae Fn,ae e1,af e2]at this;exact aI this
     |false=>
      have e2':¬(Xt Um).contains (Yj ws)=true:=by show¬(Xt Um).contains Zw9=true;rw[e2];simp
      refine aF ⟨_,ZbY,_,ZdH Zb2,eQ _ _,?_⟩;rw[eW];by_cases h0:ws.getD 0 []=text "after"
      ·rw[bu h0];refine aI ⟨_,ZdY,_,t1,_,ZdY,_,t0,p,i,P,_,_,rfl,fj,wf.after,λy hy=>hX (XE Zgu).2 wf.steps,amI,λH2 rb s2 ij=>⟨rb,rfl,?_⟩⟩;have kk:=k H2 rb XJ (λ_ _ _=>ij);rw[ae Fn,ae e1,ae e2',bu h0]at kk;cases rb with
       |true=>
        rw[af (show(true&&true)=true by rfl)]at kk;exact aI kk
       |false=>
        rw[ae (show¬(true&&false)=true by simp)]at kk;exact aF (fin H2 s2 λ_ _=>kk)
      ·rw[aX h0];have kk:=Zmc;rw[ae Fn,ae e1,ae e2',aX h0,ae (show¬(false&&rb0)=true by simp)]at kk;exact aF (fin H1 ZU λ_ _=>kk)
end
end
section
open Vbwbal (splitBy letter digit isName numOf lineOf text stepNames personNames indexOf)
abbrev asq:Zc:=["plan","words"]
theorem RI:aV asq Gf (aA IU):=Zl
def iC(P:Plan)(ws:Zz)(rb:Bool):Nat:=
 if fZ ws=false then 1
 else if ws.getD 0 []=text "role"then jq P.roles 8 YU P.roles []
 else if ws.getD 0 []=text "person"then jq Zi4 7 YU P.roles (ws.drop 2)
 else if ws.getD 0 []=text "step"then jq Zjp 7 YU P.roles (ws.drop 3)
 else if ws.getD 0 []=text "most"then(if(personNames P).contains YU=true then 0 else 3)
 else kindB P ws rb
def yZ(P:Plan)(ws:Zz)(rb:Bool):Prop:=ws.getD 0 []=text "after"->(stepNames P).contains YU=true->(stepNames P).contains Ut=true->(rb=true↔Reach P.after (Yj ws).2 (Yj ws).1)
def QH(A:Ad):Sp:=λvs H Q _=>∃(p w:Addr) (i:aW) (P:Plan) (ws:Zz),vs=[.ref p,.ref w]/\Y4/\ZF/\H w=some VD/\oP ws/\
 ∀(H':Hp) (rb:Bool),Zd->yZ P ws rb->Q (nat (iC P ws rb)) H'
theorem FI{ws:Zz}(h:fZ ws=true):(ws.getD 0 []=text "role"->ws.length=2)/\(ws.getD 0 []=text "person"->2<=ws.length)/\(ws.getD 0 []=text "step"->4<=ws.length)/\(ws.getD 0 []=text "most"->ws.length=3)/\
  (ws.getD 0 []≠text "role"->ws.getD 0 []≠text "person"->ws.getD 0 []≠text "step"->ws.getD 0 []≠text "most"->(ws.getD 0 []=text "after"∨ws.getD 0 []=text "unlike"∨ws.getD 0 []=text "alike")/\ws.length=3):=by
 unfold fZ at h;have d1:text "person"≠text "role":=by decide+kernel
 have d2:text "step"≠text "role":=by decide+kernel
 have d3:text "step"≠text "person":=by decide+kernel
 have d4:text "most"≠text "role":=by decide+kernel
 have d5:text "most"≠text "person":=by decide+kernel
 have d6:text "most"≠text "step":=by decide+kernel
 have d7:¬(text "most"=text "after"∨text "most"=text "unlike"∨text "most"=text "alike"):=by decide+kernel
 refine⟨λe=>?_,λe=>?_,λe=>?_,λe=>?_,λa b c d=>?_⟩
 ·rw[af e,aP,bX]at h;exact h.1
 ·rw[e,ae d1,af rfl,aP,bX]at h;exact h.1
 ·rw[e,ae d2,ae d3,af rfl,aP,bX]at h;exact h.1
 ·rw[e,ae d4,ae d5,ae d6,ae d7,af rfl,aP,bX]at h;exact h.1
 ·rw[ae a,ae b,ae c]at h;by_cases q:ws.getD 0 []=text "after"∨ws.getD 0 []=text "unlike"∨ws.getD 0 []=text "alike"
  ·rw[af q,aP,bX]at h;exact⟨q,h.1⟩
  ·rw[ae q,ae d]at h;cases h
section
variable {P:Program}{w:World}{K:PySem.W.Frag}{mg:Zx}{base:Heap}{A:Ad}
theorem ai1{f:Addr}{fd:FuncData}(T:Zm)(MU:Zw "has_form" GI 3 Ra)(Bo:Zw "wrong_newcomer" Ge 1 QG)(Mx:Zw "wrong_pair" Gd 3 (QF A))(F:Zo "wrong_kind" "wrong_kind" IU f fd):Y2 4 f fd Gf (QH A):=by
 have nd:=RI.nd;refine F.ok RI Zj Zn
 ·ext am
 ·obtain⟨p,w,i,P,ws,rfl,hP,wf,hw,ok,k⟩:=h;ext c;refine⟨_,(ao (bg (eR (Z4 (az MU hr rfl (Xi ai)) Z0)) (ak (ay (bE T.an5 rfl))) bp)
   (ao (bg Zab (ak (ay (az Bo hr rfl (Vp (aa (bE T.aoa rfl) (Xi (Vp Zqr))))))) bp)
   (ao (bg Zab (ak (ay (az Bo hr rfl (Vp (aa (bE T.aob rfl) (Xi (Vp ZlD))))))) bp)
   (ao (bg Zab (ak (ay (az Bo hr rfl (Vp (aa (bE T.an9 rfl) (Xi (Vp ZlD))))))) bp)
   (ao (bg Zab (ak (ay (xn (bN U1 ZcE Ym rfl) aR (bE T.Nc rfl)))) bp)
   (ak (ay (az Mx hr rfl (aa (pv 0) (aa (pv 1) ai)))))))))),?_⟩
  have n1:=Zbr;have n2:=Zbm;have n3:=Uo;ext bc;have pT:=ok.len;unfold iC at k;obtain⟨rb0,hrb0⟩:∃rb0:Bool,yZ P ws rb0:=by
   ext cV
   ·exact⟨true,λ_ _ _=>⟨λ_=>h,λ_=>rfl⟩⟩
   ·exact⟨false,λ_ _ _=>⟨λe=>ZbA,λe=>ZdV h⟩⟩
  ext a;refine⟨w,ws,rfl,hw,ok,λH1 s1=>?_⟩;have gQ:=s1.at hw;have fj:=ZbP;ext aY;have EW:H1 i.r=some ZeY:=fj.roles;have da:H1 i.p=some ZtY:=by rw[fj.persons];unfold Vbwbal.personNames;rw[bz];rfl
  have aT:H1 i.s=some ZlS:=by rw[fj.steps];unfold Vbwbal.stepNames;rw[bz];rfl
  refine⟨fZ ws,rfl,?_⟩;cases hf:fZ ws with
  |false=>
   have:=k H1 rb0 s1 hrb0;rw[af hf]at this;exact aI this
  |true=>
   have j4:¬fZ ws=false:=by rw[hf];simp
   ext bf;ext ad;ext ai
   ·rw[bu h1];ext e;ext bA;refine⟨ZI,λq hq=>?_⟩;have s2:YH (Yr q Yh):=U8;refine⟨i.r,w,i.r,q,P.roles,ws,P.roles,[],8,rfl,s2.at EW,s2.at gQ,s2.at EW,au,by rw[f1 h1];decide,ZI,λH3 s3=>?_⟩;have:=Zol;rw[ae j4,af h1]at this;ext d
   ·rw[aX h1];ext ad;ext S
    ·rw[bu h2];ext e;simp! [fj.ins,T.bU,n1,n2,n0,k_];refine ZyN;have s2:YH (Yr q (.lst (ja Zds (some 2) none))):=U8;refine⟨i.p,w,i.r,q,Zi4,ws,P.roles,ws.drop 2,7,rfl,s2.at da,s2.at gQ,s2.at EW,?_,f2 h2,by rw[mB];omega,λH3 s3=>?_⟩
     ·rw[au,Co];exact Zv6 (BE _ 2)
     ·have:=Zol;rw[ae j4,ae h1,af h2]at this;ext d
    ·rw[aX h2];ext ad;ext T
     ·rw[bu h3];ext e;simp! [fj.ins,T.bU,n1,n3,n0,k0];refine ZyN;have s2:YH (Yr q (.lst (ja Zds (some 3) none))):=U8;refine⟨i.s,w,i.r,q,Zjp,ws,P.roles,ws.drop 3,7,rfl,s2.at aT,s2.at gQ,s2.at EW,?_,by have:=f3 h3;omega,by rw[mB];omega,λH3 s3=>?_⟩
      ·rw[au,Co];exact Zv6 (BE _ 3)
      ·have:=Zol;rw[ae j4,ae h1,ae h2,af h3]at this;ext d
     ·rw[aX h3];ext ad;ext ak
      ·rw[bu h4];ext e;simp! [fj.ins,T.bU,n2,k_];refine⟨_,ZbY,_,ZkH (kQ (by have:=f4 h4;omega)),J5 da Yu⟩;have:=k H1 rb0 s1 hrb0;rw[ae j4,ae h1,ae h2,ae h3,af h4]at this;cases e:(personNames P).contains YU with
       |true=>
        rw[af e]at this;exact aI this
       |false=>
        rw[ae (by rw[e];simp)]at this;exact aF this
      ·rw[aX h4];ext g;ext ar;refine⟨p,w,i,P,ws,rfl,fj,wf,gQ,Zb,g1,λH2 rb s2 ij=>?_⟩;have:=k H2 rb XJ ij;rw[ae j4,ae h1,ae h2,ae h3,ae h4]at this;ext d
end
end
section
open Vbwbal (text decimal roleAt stepAt MOST)
abbrev asX:Zc:=["numbers"]
theorem Sw:aV asX mr (aA Jy):=Zl
abbrev afh:Zc:=["signs","sign"]
theorem S1:aV afh B6 (aA DD):=Zl
abbrev ae3:Zc:=["plan","roles","role"]
theorem R6:aV ae3 BW (aA Dn):=Zl
abbrev asM:Zc:=["plan","lines","name","roles","most"]
theorem Sd:aV asM Gv (aA Jo):=Zl
abbrev asA:Zc:=["plan","lines","name","roles","word","first","second"]
theorem RU:aV asA Gm (aA Jc):=Zl
section
variable {X:Cx}
theorem Aj{e e2:Expr}{ta:TA}{p pos fQ:Pos}{elts:Ya}{kk:Nat}(K:PySem.W.Frag)(hg:Gl X "zip")(hm:ZoV)(ha:PA X [e,e2] ta)(hK:X.K=K:=by rfl)
  (hs:starEach [e,e2] X.env=(false,Yv)::starEach [e2] X.env:=by rfl) (cC:(Xa Zw3).any Zg=false:=by rfl):PI X VC ZsO (rS K ta):=by
 subst hK;exact aih hg hm ha hs cC
end
theorem aaM(s:String):V.str Zff=aE (text s):=by rw[Str.ofString_eq_toList];rfl
def iv(l:ZK):Ze:=l.map V.int
theorem oq(l:ZK):(iv l).length =l.length:=X3
theorem alR(a b:ZK):iv Zek=iv a++iv b:=cA
theorem EJ(l:Za):nats l=iv (l.map Int.ofNat):=by unfold nats iv;rw[bz];rfl
def kT:Sp:=λvs H Q _=>∃(a:Addr) (xs:Ze),vs=[.ref a]/\H a=some Yw/\xs.length<=2000000/\∀(H':Hp) (l:Addr),Zd->H l=none->H' l=some (.lst (nat xs.length::xs))->ZY H'
def C8:Sp:=λvs H Q _=>∃(b:Bytes),vs=[aE b]/\b.length<=100000/\∀(H':Hp) (l:Addr),Zd->H l=none->H' l=some (.lst (nats b))->ZY H'
def Iu(A:Ad):Sp:=λvs H Q _=>∃(p a:Addr) (i:aW) (P:Plan) (rs:Za),vs=[.ref p,.ref a]/\Y4/\H a=some (.lst (nats rs))/\(∀r∈rs,r<P.roles.length)/\rs.length<=100/\
 ∀(H':Hp) (l:Addr),Zd->H l=none->H' l=some (.lst ((rs.map Wa).map aE))->ZY H'
structure lI(H:Hp)(a:Addr)(ws:VW):Prop where
 ex:∃zs:List Zyj,H a=some Wn/\zs.map Z1=ws/\∀z∈zs,z.1≠a/\H z.1=some Znd
theorem lI.same{H H':Hp}{a:Addr}{ws:VW}(s:Zd)(h:lI H a ws):lI H' a ws:=by obtain⟨zs,h1,h2,h3⟩:=h.ex;exact⟨zs,UY,h2,λz hz=>⟨(h3 z hz).1,s.at (h3 z hz).2⟩⟩
theorem lI.push{H H':Hp}{a r:Addr}{ws:VW}{w:Zz}(h:lI H a ws)(s:Zd)(hr:H' r=some (.lst (w.map aE)))(hn:r≠a):
  ∃xs,H' a=some Yw/\xs.length=ws.length/\lI (Wy a (.lst (xs++[.ref r]))) a (ws++[w]):=by
 obtain⟨zs,h1,h2,h3⟩:=h.ex;refine⟨Zb3,UY,by rw[fT,←h2,aq],⟨zs++[(r,w)],by rw[au,qU];rfl,by rw[cA,h2];rfl,λz hz=>?_⟩⟩;rcases b8.mp hz with q|q
 ·refine⟨(h3 z q).1,?_⟩;rw[ax (h3 z q).1];exact s.at (h3 z q).2
 ·rw[bo.mp q];refine⟨hn,?_⟩;rw[ax hn];exact hr
def uC(P:Plan):VW:=(P.persons.map λx=>text "person"::x.name::x.roles.map Wa)++(P.persons.filter λx=>x.most != 99).map λx=>[text "most",x.name,decimal x.most]
def pk(P:Plan):VW:=(P.steps.map λx=>text "step"::x.name::text "by"::x.roles.map Wa)++((P.after.map λy=>[text "after",Xg y.1,Xg y.2])++((P.unlike.map λy=>[text "unlike",Xg y.1,Xg y.2])++(P.alike.map λy=>[text "alike",Xg y.1,Xg y.2])))
def QX(A:Ad):Sp:=λvs H Q _=>∃(p:Addr) (i:aW) (P:Plan),vs=[.ref p]/\Y4/\ZF/\∀(H':Hp) (l:Addr),Zd->H l=none->Zcg (uC P)->ZY H'
def QN(A:Ad):Sp:=λvs H Q _=>∃(p:Addr) (i:aW) (P:Plan),vs=[.ref p]/\Y4/\ZF/\∀(H':Hp) (l:Addr),Zd->H l=none->Zcg (pk P)->ZY H'
section
variable {P:Program}{w:World}{K:PySem.W.Frag}{mg:Zx}{base:Heap}{A:Ad}
theorem ajO{f:Addr}{fd:FuncData}(T:Zm)(F:Zo "listed" "listed" Jy f fd):Z3 mr kT:=by
 have nd:=Sw.nd;refine F.ok Sw Zj Zn
 ·obtain⟨a,xs,rfl,_⟩:=h;rfl
 ·obtain⟨a,xs,rfl,ha,hl,k⟩:=h;ext c;refine⟨_,(ak (ay (cR lg (bh (aa Zbk ai)) Yp))),?_⟩;ext a;refine⟨_,Znc,X5,λq hq=>⟨xs,?_,Zb,λl cY=>?_⟩⟩
  ·rw[ax (cg ha hq)];exact ha
  ·have s1:Z8 (ZH q (.lst [nat xs.length])):=U8;exact k _ l (bV s1 (s1.free cY)) (s1.free cY) au
theorem aki{f:Addr}{fd:FuncData}(T:Zm)(F:Zo "bytes_of" "bytes_of" DD f fd):Z3 B6 C8:=by
 have nd:=S1.nd;refine F.ok S1 Zj Zn
 ·obtain⟨b,rfl,_⟩:=h;rfl
 ·obtain⟨b,rfl,hl,k⟩:=h;refine⟨_,(ak (ay (dW (own:=[("sign",1)]) rfl nd (Kg Yp) (show cB afh (aA DD) _ _ from Yf) ZeS Xc (λ_ _ _ _ _=>(bW arf Vo T.aa1 arM Wr))))),?_⟩;unfold aE;ext a;refine K8 (by rw[dR];omega) Y9 nat (λi c H' hc s1 R S hR hS=>?_) (λD H' hD s1 h=>ZfR (by rw[h,filter_all];rfl));ext a;exact⟨rfl,hR rfl _ ZU⟩
theorem ajn{f:Addr}{fd:FuncData}(T:Zm)(F:Zo "role_names" "role_names" Dn f fd):Z3 BW (Iu A):=by
 have nd:=R6.nd;refine F.ok R6 Zj Zn
 ·obtain⟨p,a,i,P,rs,rfl,_⟩:=h;rfl
 ·obtain⟨p,a,ix,P,rs,rfl,hP,ha,dv,hl,k⟩:=h;have n1:=Zbr;refine⟨_,(ak (ay (dW (own:=[("role",2)]) rfl nd (ZS ZC) (show cB ae3 (aA Dn) _ _ from Yf) Zbf Xc (λ_ _ _ _ _=>(ZaU ZR Z2))))),?_⟩;ext a;refine⟨UD,e8 (zs:=rs) Xe XF Zb Y9 (λr=>aE (Wa r)) Zbb (λD H' hD s1 h=>ZfR (by rw[h,filter_all,bz];rfl))⟩;ext o
  have fj:=ZbP;have u5:=dv z Xv;ext bA;refine⟨_,ag.of fj.roles,aE (Wa z),bQ ?_,bc rfl _ ZU⟩;unfold roleAt;rw[cx,jN,fP u5];rfl
theorem ajw{f:Addr}{fd:FuncData}(T:Zm)(yC:Zva)(F:Zo "person_lines" "person_lines" Jo f fd):X8 Gv (QX A):=by
 have nd:=Sd.nd;refine F.ok Sd Zj Zn
 ·ext av
 ·ext as;ext c;have n1:=Zbm;have n2:=ZhY;have n3:=ZiN;have jz:=wf.persons;refine⟨_,(ao (UQ WU)
   (ao (dN dF rfl (Aj K rfl T.uJ Zgz) Zev (ak (dU (WK ZC (aa (cR lg (bh Zqs) ZvK) ai)))))
   (ao (dN dF rfl (Aj K rfl T.uJ Zgz) (i4 2 K rfl (dn VQ ZqA)) (ak (bg (bN xx YB (bE T.ac7 rfl) ZP) (ak (dU (WK ZC (aa (bh (aa cW (X2 (aa (xo aq9 Vo T.aaY arJ ZaD) ai)))) ai)))) bp)))
   (ak (ay (pv 1)))))),?_⟩
  ext cd;obtain⟨rs,gS,gR⟩:=id hP.pr;simp! [fj.ins,T.bU,n1,n2,k_,DY];refine⟨_,ag.of fj.persons,_,ag.of (s1.at gS),?_⟩;obtain⟨Pv,aB⟩:∃Pv:Nat->L2.St->Hp->Prop,∀m σ H',YG H'↔∃(v2 v3 v4:ZM),σ=[some Z6,some Z5,v2,v3,v4]/\Zd/\Zcg ((P.persons.take m).map λx=>text "person"::x.name::x.roles.map Wa):=Ye;refine Bu Zhy W8 Zmx Pv ((Zi _).mpr ⟨none,none,none,rfl,s1,Zvx⟩) (λi σ H' _ hv=>let⟨_,_,_,_,s2,_⟩:=(Zi _).mp hv;⟨ag.of (hP.same s2).persons,ag.of (s2.at gS)⟩) ?_ ?_
  ·intro m x y Tp σ H2 hx hy hv hTp;ext c0;ext bR
   have jy:=bI da;have s3:Xw Zhr:=Za5;have qS:=ZfU;ext r;ext cp;have s4:Xw (upd Zhr q Ztx):=bV s3 (s3.free hq);have jS:=s2.trans s4;refine⟨p,ra,ix,P,pe.roles,rfl,hP.same jS,jS.at eS,wf.rj pe jy,by have:=wf.mT pe jy;omega,λH5 l5 s5 acH jB=>?_⟩;have xX:H5 q=some Ztx:=s5.at au;have h8:=wf.mT pe jy;ext b5;have gz:Xw (upd H5 r (.lst ([V.str "person",aE pe.name]++(pe.roles.map Wa).map aE))):=bV jj (jj.free gm);have fG:r≠l:=λe=>by obtain⟨zs,cE,_⟩:=(hW.same jj).ex;rw[e,cE]at gm;cases gm
   obtain⟨xs,e1,e2,e3⟩:=hW.push (r:=r) (w:=text "person"::pe.name::pe.roles.map Wa) gz (by rw[au];rfl) fG;have hm:=ll da;refine⟨xs,e1,?_,(Zi _).mpr ⟨_,_,_,rfl,Zvt,?_⟩⟩
   ·rw[e2,aq,eY];omega
   ·rw[dA da,cA];exact e3
  ·intro σ H2 hv;ext c0;rw[aq,eg]at hW;have gX:=Zgp;simp! [gX.ins,T.bU,n1,n3,k_,Af];refine⟨_,ag.of gX.persons,_,ag.of gX.eF,?_⟩;obtain⟨W1,vo⟩:∃W1,W1=P.persons.map λx=>text "person"::x.name::x.roles.map Wa:=Zs;rw[←vo]at hW;have anJ:W1.length<=7:=by rw[vo,aq];exact jz
   obtain⟨Pw,cj⟩:∃Pw:Nat->L2.St->Hp->Prop,∀m σ H',Pw m σ H'↔∃(v2 v3 v4:ZM),σ=[some Z6,some Z5,v2,v3,v4]/\Zd/\Zcg (W1++((P.persons.take m).filter λx=>x.most != 99).map λx=>[text "most",x.name,decimal x.most]):=Ye;refine Bu Zhy ZlJ (by rw[aq,aq]) Pw ((Yk _).mpr ⟨v2,v3,v4,rfl,s2,by simpa using hW⟩) (λi σ H' _ hv=>let⟨_,_,_,_,s3,_⟩:=(Yk _).mp hv;⟨ag.of (hP.same s3).persons,ag.of (hP.same s3).eF⟩) ?_ ?_
   ·intro m x y Tp σ H3 hx hy hv hTp;ext c1;obtain⟨pe,da,rfl⟩:=UG;obtain⟨pe',AZ,rfl⟩:=Wo;rw[da]at AZ;cases AZ
    have s4:Wj Zr9:=Za5;ext r;have BC:((P.persons.take XH).filter λx=>x.most != 99).map Zsh=((P.persons.take m).filter λx=>x.most != 99).map Zsh++(if pe.most=99 then []else [[text "most",pe.name,decimal pe.most]]):=by rw[dA da,wo,cA];congr 1;by_cases e:pe.most=99<;>simp[e]
    by_cases e99:pe.most=99
    ·have NJ:((pe.most:Nat):Int)=99:=by omega
     simp! [NJ,qA];refine(Yk _).mpr ⟨_,_,_,rfl,ZfZ,?_⟩;rw[BC,af e99,fc];exact i8.same s4
    ·have NJ:¬((pe.most:Nat):Int)=99:=by omega
     obtain⟨zs,cE,_⟩:=(i8.same s4).ex;have am0:((pe.most:Int)).natAbs.log2 <1920:=by have:=wf.eF pe (bI da);have h2:((pe.most:Int)).natAbs =pe.most:=rfl;rw[h2];exact Nat.lt_of_le_of_lt (Nat.log2_le_self _) Zb
     simp! [NJ,wD,cQ cE];refine⟨am0,X5,λr gm=>?_⟩;have jY:H3 r=none:=s4.free gm;obtain⟨wl,me⟩:∃wl,wl=[text "most",pe.name,decimal pe.most]:=Zs;have ewl:[V.str (Str.ofString "most"),aE pe.name,V.str (Str.ofString (toString (pe.most:Int)))]=wl.map aE:=by rw[me,aaM,aaM];rfl
     rw[ewl];have s5:Wj (upd Zr9 r (.lst (wl.map aE))):=bV s4 jY;have fG:r≠l:=λe=>by rw[e,cE]at gm;cases gm
     obtain⟨xs,e1,e2,e3⟩:=i8.push (r:=r) (w:=wl) s5 au fG;have hm:=ll da;refine⟨xs,e1,?_,(Yk _).mpr ⟨_,_,_,rfl,bV (s3.trans s5) hl (gf e1),?_⟩⟩
     ·rw[e2,bS,aq];have h1:=Zly (P.persons.take m);rw[eY]at h1;omega
     ·rw[BC,ae e99,←eC,←me];exact e3
   ·ext B;ext c1;rw[aq,eg,vo]at i8;ext a;exact k H3 l s3 hl i8
theorem Qw{P:Plan}{j:Nat}(h:j<P.steps.length):(P.steps.map λx=>ZdG)[j]? =some (aE (Xg j)):=by unfold stepAt;rw[cx,fP h];rfl
theorem ajd{f:Addr}{fd:FuncData}(T:Zm)(yC:Zva)(F:Zo "step_lines" "step_lines" Jc f fd):X8 Gm (QN A):=by
 have nd:=RU.nd;refine F.ok RU Zj Zn
 ·ext av
 ·ext as;ext j;have n1:=Uo;have n2:=Zia;have n3:=Zaq;have jz:=wf.steps;refine⟨_,(ao (UQ WU)
   (ao (dN dF rfl (Aj K rfl T.uJ Zgz) Zev (ak (dU (WK ZC (aa (cR lg (bh (aa cW (X2 (aa cW ai)))) ZvK) ai)))))
   (ao (dN dF rfl (aii K (D0 T.adb rfl)) VM (ak (dN dF rfl (ZS (Uc Ym YB Z2)) Zr1 (ak (dU (WK ZC (aa (bh (Zco (aa (ZaU VZ Z2) (aa (ZaU Za2 Z2) ai)))) ai)))))))
   (ak (ay (pv 1)))))),?_⟩
  ext cd;obtain⟨rs,gS,gR⟩:=id hP.sr;simp! [fj.ins,T.bU,n1,n2,k0,DX];refine⟨_,ag.of fj.steps,_,ag.of (s1.at gS),?_⟩;obtain⟨Pv,aB⟩:∃Pv:Nat->L2.St->Hp->Prop,∀m σ H',YG H'↔∃(v2 v3:ZM),σ=[some Z6,some Z5,v2,v3,none,none,none]/\Zd/\Zcg ((P.steps.take m).map λx=>text "step"::x.name::text "by"::x.roles.map Wa):=Ye;refine Bu ZlY W8 Zmx Pv ((Zi _).mpr ⟨none,none,rfl,s1,Zvx⟩) (λi σ H' _ hv=>let⟨_,_,_,s2,_⟩:=(Zi _).mp hv;⟨ag.of (hP.same s2).steps,ag.of (s2.at gS)⟩) ?_ ?_
  ·intro m x y Tp σ H2 hx hy hv hTp;ext dc;ext bR
   have jy:=bI da;have s3:Xw Zhr:=Za5;ext r;ext cp;have s4:Xw (upd Zhr q Zsi):=bV s3 (s3.free hq);have jS:=s2.trans s4;refine⟨p,ra,ix,P,pe.roles,rfl,hP.same jS,jS.at eS,wf.wW pe jy,by have:=wf.qQ pe jy;omega,λH5 l5 s5 acH jB=>?_⟩;have xX:H5 q=some Zsi:=s5.at au;have h8:=wf.qQ pe jy;ext b5;have gz:Xw (upd H5 r (.lst ([V.str "step",aE pe.name,.str "by"]++(pe.roles.map Wa).map aE))):=bV jj (jj.free gm);have fG:r≠l:=λe=>by obtain⟨zs,cE,_⟩:=(hW.same jj).ex;rw[e,cE]at gm;cases gm
   obtain⟨xs,e1,e2,e3⟩:=hW.push (r:=r) (w:=text "step"::pe.name::text "by"::pe.roles.map Wa) gz (by rw[au];rfl) fG;have hm:=ll da;refine⟨xs,e1,?_,(Zi _).mpr ⟨_,_,rfl,Zvt,?_⟩⟩
   ·rw[e2,aq,eY];omega
   ·rw[dA da,cA];exact e3
  ·intro σ H2 hv;ext dc;rw[aq,eg]at hW;obtain⟨W1,vo⟩:∃W1,W1=P.steps.map λx=>text "step"::x.name::text "by"::x.roles.map Wa:=Zs;rw[←vo]at hW;have anJ:W1.length<=7:=by rw[vo,aq];exact jz
   obtain⟨kd,Ba⟩:∃kd:List (Str×List Xr),kd=[(("after":Str),P.after),(("unlike":Str),P.unlike),(("alike":Str),P.alike)]:=Zs;obtain⟨pw,ox⟩:∃pw:Str×List Xr->VW,pw=λz=>z.2.map λy=>[z.1.cps.toList,Xg y.1,Xg y.2]:=Zs;have Fe:∀z∈kd,z.2.length<=12/\(∀y∈z.2,y.1<P.steps.length/\y.2<P.steps.length):=λz hz=>by
    rw[Ba]at hz;rcases aJ.mp hz with e|hz
    ·rw[e];exact⟨wf.after,λy hy=>XE Zgu⟩
    rcases aJ.mp hz with e|hz
    ·rw[e];exact⟨wf.unlike,λy hy=>XE (.inr Zgu)⟩
    ·rw[bo.mp hz];exact⟨wf.alike,λy hy=>XE ZiH⟩
   have hkg:∀z∈kd,∃a,(∀H',Zd->bZ H' ix.d (.str z.1) Zgr/\g8 H' a z.2):=λz hz=>by
    rw[Ba]at hz;rcases aJ.mp hz with e|hz
    ·rw[e];exact⟨ix.a,λH' s'=>⟨bZ.k (k:=Sum.inr "after") (hP.same s').pairs,(hP.same s').after⟩⟩
    rcases aJ.mp hz with e|hz
    ·rw[e];exact⟨ix.u,λH' s'=>⟨bZ.k (k:=Sum.inr "unlike") (hP.same s').pairs,(hP.same s').unlike⟩⟩
    ·rw[bo.mp hz];exact⟨ix.l,λH' s'=>⟨bZ.k (k:=Sum.inr "alike") (hP.same s').pairs,(hP.same s').alike⟩⟩
   have ekd:[V.str "after",V.str "unlike",V.str "alike"]=kd.map λz=>V.str z.1:=by rw[Ba];rfl
   have amD:∀ks:List (Str×List Xr),(∀z∈ks,z∈kd)->(ks.flatMap pw).length <=12*ks.length:=λks=>by
    induction ks with
    |nil=>intro _;exact ZI
    |cons z r ih=>
     intro h;have h1:=ih λy hy=>h y ZdT;have h2:=(Fe z (h z aY)).1;rw[iR,bS,bb];have:(pw z).length =z.2.length:=by rw[ox,aq]
     omega
   have au7:kd.length=3:=by rw[Ba];rfl
   ext a;refine⟨⟨_,T.lT H2⟩,?_⟩;obtain⟨Pw,cj⟩:∃Pw:Nat->L2.St->Hp->Prop,∀m σ H',Pw m σ H'↔∃(v4 v5 v6:ZM),σ=[some Z6,some Z5,v2,v3,v4,v5,v6]/\Zd/\Zcg (W1++(kd.take m).flatMap pw):=Ye;refine aov (kd.map λz=>V.str z.1) Pw ((Yk _).mpr ⟨none,none,none,rfl,s2,by simpa using hW⟩) (λi σ H' _ _=>by rw[←ekd];exact T.lT H') ?_ ?_
   ·ext aC;ext c3;obtain⟨z,hz,rfl⟩:=Wo;have cO:=Xv;obtain⟨a,hag⟩:=hkg z cO;obtain⟨auM,amg⟩:=Fe z cO;have Bk:=hP.same s3;obtain⟨_,rs2,Fo,EV⟩:=hag H ZfX;have dg:=(hag H3 s3).1;simp! [Bk.ins,T.bU,n3,n8];refine⟨_,dg,a,rfl,⟨_,ag.of (s3.at Fo)⟩,?_⟩;obtain⟨Pu,Bj⟩:∃Pu:Nat->L2.St->Hp->Prop,∀n σ H',Pu n σ H'↔∃(v5 v6:ZM),σ=[some Z6,some Z5,v2,v3,some (.str z.1),v5,v6]/\Zd/\Zcg (W1++((kd.take m).flatMap pw++(z.2.take n).map λy=>[z.1.cps.toList,Xg y.1,Xg y.2])):=Ye;refine gH (rs2.map V.ref) Pu ((Bj _ _ _).mpr ⟨v5,v6,rfl,s3,by simpa using i8⟩) (λi σ H' _ hv=>let⟨_,_,_,s4,_⟩:=(Bj _ _ _).mp hv;ag.of (s4.at Fo)) ?_ ?_
    ·intro n y σ H4 hy hv;ext c4;obtain⟨r,iG,rfl⟩:=Wo;obtain⟨pp,kC,eS⟩:=gN EV iG;have x6:=amg pp (bI kC);have yo:=hP.same s4;refine⟨r,_,rfl,bM.of (s4.at eS),rfl,?_⟩;obtain⟨zs,cE,_⟩:=lE.ex;simp! [cQ cE,yo.ins,T.bU,n1,k0];refine⟨_,Zpl,_,bQ (Qw x6.1),_,Zpl,_,bQ (Qw x6.2),X5,λq hq=>?_⟩;have s5:ah H4 (U6 q (.lst [.str z.1,aE (Xg pp.1),aE (Xg pp.2)])):=U8;have hql:q≠l:=λe=>by rw[e,cE]at hq;cases hq
     obtain⟨xs,e1,e2,e3⟩:=lE.push (r:=q) (w:=[z.1.cps.toList,Xg pp.1,Xg pp.2]) s5 (by rw[au];rfl) hql;have hn:=ll kC;have pU:(kd.take m).length <=3:=by rw[eY];omega
     have sq:=amD (kd.take m) λy hy=>Cm hy;refine⟨xs,e1,?_,(Bj _ _ _).mpr ⟨_,_,rfl,?_,?_⟩⟩
     ·rw[e2,bS,bS,aq,eY];omega
     ·exact bV ZaA hl (gf e1)
     ·rw[dA kC,cA,←eC,←eC];rw[←eC]at e3;exact e3
    ·intro σ H4 hv;ext c4;rw[aq,du EV,eg]at lE;refine(Yk _).mpr ⟨_,_,_,rfl,s4,?_⟩;rw[dA hz,oT];simp only[iR,Pb,fc];rw[ox]at lE⊢;exact lE
   ·ext B;ext c3;rw[aq,eg]at i8;ext a;refine k H3 l s3 hl ?_;have:W1++kd.flatMap pw=pk P:=by unfold pk;rw[vo,Ba,ox];simp only[iR,Pb,fc];rfl
    rw[←this];exact i8
end
end
section
open Vbwbal (text decimal roleAt stepAt MOST)
abbrev ae0:Zc:=["plan","lines","name","text","words"]
theorem RX:aV ae0 Gp (aA Dk):=Zl
def atR(ws:Zz):Bytes:=Vbwbal.line ws
theorem ahz(P:Plan):Vbwbal.shown P=(((P.roles.map λn=>[text "role",n])++uC P)++pk P).flatMap Vbwbal.line:=by
 unfold Vbwbal.shown uC pk Vbwbal.pairLines;simp only[oT,List.flatMap_map,eC];congr 1;congr 1;congr 1
 induction P.persons with
 |nil=>rfl
 |cons x r ih=>
  rw[iR,jf,ih];by_cases e:x.most=99
  ·have:¬(x.most != 99)=true:=by simp[e]
   rw[af (show x.most=MOST from e),ae this];rfl
  ·have:(x.most != 99)=true:=by simpa using e
   rw[ae (show¬x.most=MOST from e),af this,iR]
def QP(A:Ad):Sp:=λvs H Q _=>∃(p:Addr) (i:aW) (P:Plan),vs=[.ref p]/\Y4/\ZF/\∀(H':Hp) (l:Addr),Zd->H l=none->H' l=some (.lst (nats (Vbwbal.shown P)))->(Vbwbal.shown P).length <=100000->ZY H'
theorem adm:∀(r:Zz) (w:Bytes),Zvw w=w++r.flatMap λx=>32::x
 |[],w=>by simp
 |x::r,w=>by rw[wk,adm r,iR];simp
theorem TL.ahb(a b:Str):a++b=⟨(TL.tl a++TL.tl b).toArray⟩:=by rw[←TL.CN]
theorem Lc:∀(w:Bytes) (r:Zz),TL.m6 [32] (w::r)=w++r.flatMap λx=>32::x
 |w,[]=>by simp[TL.m6]
 |w,x::r=>by show w++([32]++TL.m6 [32] (x::r))=_;rw[Lc x r,iR];rfl
theorem abo(ws:Zz)(h:ws≠[]):Vbwbal.line ws=TL.m6 [32] ws++[10]:=by
 cases ws with
 |nil=>exact absurd rfl h
 |cons w r=>
  show Zvw w++[10]=_;rw[adm,Lc]
theorem aqk:∀n,n<=99->(decimal n).length <=2:=by
 have h:((List.range 100).all λn=>decide ((decimal n).length <=2))=true:=by decide+kernel
 intro n hn;have:=dh.mp h n ZfY;exact lW this
structure zx(ws:Zz):Prop where
 ne:ws≠[]
 len:ws.length<=11
 each:∀w∈ws,w.length<=12
theorem ado:∀(r:Zz),(∀w∈r,w.length<=12)->(r.flatMap λx=>32::x).length <=13*r.length
 |[],_=>ZI
 |w::r,h=>by have ih:=ado r λx hx=>h x ZaS;have h1:=h w aY;rw[iR,bS,bb,bb];omega
theorem zx.line{ws:Zz}(h:zx ws):(Vbwbal.line ws).length <=150:=by
 rw[abo ws h.ne];cases ws with
 |nil=>exact absurd rfl h.ne
 |cons w r=>
  rw[Lc,bS,bS];have h1:=ado r λx hx=>h.each x ZaS;have h2:=h.each w aY;have h3:=h.len;rw[bb]at h3;simp only[O8];omega
theorem TK{P:Plan}(wf:ZF)(r:Nat):(Wa r).length <=12:=by
 unfold roleAt;rw[jN];cases e:P.roles[r]? with
 |none=>exact ZI
 |some n=>exact wf.uk n (bI e)
theorem Qx{P:Plan}(wf:ZF)(r:Nat):(Xg r).length <=12:=by
 unfold stepAt;cases e:P.steps[r]? with
 |none=>exact ZI
 |some n=>exact wf.tZ n (bI e)
def sO(P:Plan):VW:=((P.roles.map λn=>[text "role",n])++uC P)++pk P
theorem Nu{P:Plan}(wf:ZF)(t:Bytes)(ht:t.length<=12)(ps:ZV){ws:Zz}(h:ws∈ps.map λy=>[t,Xg y.1,Xg y.2]):zx ws:=by
 obtain⟨y,_,rfl⟩:=UN;refine ZmQ;rcases aJ.mp hw with e|hw
 ·rw[e];exact ht
 rcases aJ.mp hw with e|hw
 ·rw[e];exact Qx wf _
 ·rw[bo.mp hw];exact Qx wf _
theorem adt{P:Plan}(wf:ZF):∀ws∈sO P,zx ws:=by
 intro ws h;unfold sO uC pk at h;rcases b8.mp h with h|h
 ·rcases b8.mp h with h|h
  ·obtain⟨n,hn,rfl⟩:=UN;refine ZmQ;rcases aJ.mp hw with e|hw
   ·rw[e];decide
   ·rw[bo.mp hw];exact wf.uk n hn
  ·rcases b8.mp h with h|h
   ·ext bz;have h8:=wf.mT x hx;refine Zue;rcases aJ.mp hw with e|hw
    ·rw[e];decide
    rcases aJ.mp hw with e|hw
    ·rw[e];exact wf.pF x hx
    ·ext c8
   ·ext bz;have hx:=(bD.mp hx).1;refine ZmQ;rcases aJ.mp hw with e|hw
    ·rw[e];decide
    rcases aJ.mp hw with e|hw
    ·rw[e];exact wf.pF x hx
    ·rw[bo.mp hw];have:=aqk x.most (wf.eF x hx);omega
 ·rcases b8.mp h with h|h
  ·ext bz;have h8:=wf.qQ x hx;refine Zue;rcases aJ.mp hw with e|hw
   ·rw[e];decide
   rcases aJ.mp hw with e|hw
   ·rw[e];exact wf.tZ x hx
   rcases aJ.mp hw with e|hw
   ·rw[e];decide
   ·ext c8
  ·rcases b8.mp h with h|h
   ·exact ZoR
   rcases b8.mp h with h|h
   ·exact ZoR
   ·exact ZoR
theorem aex{P:Plan}(wf:ZF):(sO P).length <=100:=by unfold sO uC pk;have h1:=wf.roles;have h2:=wf.persons;have h3:=wf.steps;have h4:=wf.after;have h5:=wf.unlike;have h6:=wf.alike;have h7:=Zly P.persons;simp only[bS,aq];omega
theorem K3:∀(W:VW),(∀ws∈W,zx ws)->(W.flatMap Vbwbal.line).length <=150*W.length
 |[],_=>ZI
 |w::r,h=>by have ih:=K3 r λx hx=>h x ZaS;have h1:=(h w aY).line;rw[iR,bS,bb];omega
section
variable {P:Program}{w:World}{K:PySem.W.Frag}{mg:Zx}{base:Heap}{A:Ad}
theorem ajg{f:Addr}{fd:FuncData}(T:Zm)(sF:Zxh)(MK:Zw "person_lines" Gv 2 (QX A))(ME:Zw "step_lines" Gm 2 (QN A))
  (F:Zo "shown_text" "shown_text" Dk f fd):VO Gp (QP A):=by
 have nd:=RX.nd;refine F.ok RX Zj Zn
 ·ext av
 ·ext as;ext j;have n1:=Zbr;have h8:=wf.roles;refine⟨_,(ao (UQ (cR lg (cR lg (dW (own:=[("name",2)]) rfl nd (ZS Ym) (show cB ae0 (aA Dk) _ _ from Yf) Zbf Xc (λ_ _ _ _ _=>(bh Zqs))) (az MK hr rfl (ZL ai))) (az ME hr rfl (ZL ai))))
   (ao (XW WU)
   (ao (dN dF rfl (ZS ZC) VM (ak (dU (Up ZG (aa (az sF hr rfl (aa (cR aiV (aat cW YB) cW) ai)) ai)))))
   (ak (ay (pv 3)))))),?_⟩
  simp! [hP.ins,T.bU,n1,n0];refine⟨⟨_,ZoX⟩,abB (zs:=P.roles) ZoX X3 Zb (λn=>[text "role",n].map aE) (λi x z H1 hx hz s1 R S hR=>?_) (λD H1 hD s1 r8=>?_)⟩
  ·obtain⟨z',br,rfl⟩:=UG;ext P
   ext a;exact⟨X5,λq hq=>hR q hq⟩
  ·obtain⟨rs,Mm,dv,_⟩:=r8;obtain⟨zr,Nw,adw,u5⟩:=JU dv;refine⟨p,ix,P,rfl,ZbP,wf,λH2 l2 s2 LU vn=>?_⟩;obtain⟨zp,bH,ezp,rX⟩:=vn.ex;have auJ:zr.length<=8:=by have:=Zaw adw;rw[aq]at this;omega
   have auK:zp.length<=14:=by have:=Zaw ezp;rw[aq]at this;have h2:=wf.persons;have h7:=Zly P.persons;unfold uC at this;rw[bS,aq,aq]at this;omega
   have yx:H2 D=some WR:=s2.at Mm;refine⟨D,rfl,l2,rfl,_,yx,_,bH,by rw[aq,Nw,aq,fT];omega,λp1 oz=>?_⟩;have s3:Xw (YM p1 (.lst (rs.map V.ref++refs zp))):=a0 oz;ext V;refine⟨p,ix,P,rfl,hP.same cG,wf,λH4 l4 s4 oA lE=>?_⟩;obtain⟨zt,ik,ezt,hzt⟩:=lE.ex;have auH:zt.length<=43:=by have:=Zaw ezt;rw[aq]at this;have h3:=wf.steps;have h4:=wf.after;have h5:=wf.unlike;have h6:=wf.alike;unfold pk at this;simp only[bS,aq]at this;omega
   refine⟨l4,rfl,_,s4.at au,_,ik,by rw[bS,aq,Nw,aq,fT,fT];omega,λp2 dP=>?_⟩;refine⟨ZI,λp3 jZ=>?_⟩;obtain⟨zs,js⟩:∃zs:List Zyj,zs=(zr.map λz=>(z.1,[text "role",z.2]))++zp++zt:=Zs;have ap8:(rs.map V.ref++refs zp)++refs zt=refs zs:=by rw[js,qU,qU,Nw];congr 2;unfold refs;rw[bz,bz];rfl
   have Ny:zs.map Z1=sO P:=by unfold sO;rw[js,cA,cA,ezp,ezt,adw,bz,bz];rfl
   rw[ap8]at jZ⊢;have ug:=ZfZ;have s5:ah H4 (U6 p2 Wn):=a0 dP;have dB:∀z∈zs,H4 z.1=some Znd:=λz hz=>by
    rw[js]at hz;rcases b8.mp hz with hz|hz
    ·rcases b8.mp hz with hz|hz
     ·obtain⟨y,hy,rfl⟩:=aN.mp hz;exact ug.at (s2.at (u5 y hy))
     ·exact ug.at (rX z hz).2
    ·exact(hzt z hz).2
   have xg:=(s1.trans s2).trans ug;have oy:H p3=none:=xg.free Zp1;have s6:Z8 (Zh4 Yh):=bV (xg.trans s5) oy;have gz:ah H4 (Zh4 Yh):=bV s5 Zp1;have acv:p2≠p3:=λe=>by rw[←e,au]at jZ;cases jZ
   have LD:Zh4 Yh p2=some Wn:=by rw[ax acv,au]
   obtain⟨H6,sC⟩:∃H6,H6=Zh4 Yh:=Zs;rw[←sC]at s6 gz LD⊢;have amJ:H6 p3=some Yh:=by rw[sC];exact au
   have fin:∀z∈zs,zx z.2:=λz hz=>adt wf _ (by rw[←Ny];exact Zbh);have auI:zs.length<=100:=by have:=aex wf;rw[←Ny,aq]at this;exact this
   obtain⟨Pv,aB⟩:∃Pv:Nat->L2.St->Hp->Prop,∀m σ H',YG H'↔∃(v2 v4:ZM),σ=[some Z6,some (.ref p2),v2,some (.ref p3),v4]/\Zd/\H' p2=some Wn/\(∀z∈zs,H' z.1=some Znd)/\H' p3=some (.lst (nats (((zs.take m).map Z1).flatMap Vbwbal.line))):=Ye;have pO:∀z∈zs,z.1≠p3:=λz hz=>cg (dB z hz) Zp1;refine⟨⟨_,ag.of LD⟩,gH Zb3 Pv ((Zi _).mpr ⟨_,none,rfl,s6,LD,λz hz=>gz.at (dB z hz),amJ⟩) (λi σ H' _ hv=>let⟨_,_,_,_,h2,_⟩:=(Zi _).mp hv;ag.of h2) ?_ ?_⟩
   ·intro m y σ H7 hy hv;ext cL;ext bq;have cO:=Xv;have fz:=fin z cO;have hlz:=fz.line;have jx:=K3 ZmR (λws u7=>by obtain⟨z',br,rfl⟩:=aN.mp u7;exact fin z' (Cm br))
    rw[aq,eY]at jx;have hm:=ll hz;have adE:=abo z.2 fz.ne;simp! [cQ vx];obtain⟨ys,i6⟩:∃ys:List Str,ys=z.2.map λb=>⟨b.toArray⟩:=Zs;have qh:ys.map V.str=z.2.map aE:=by rw[i6,bz];rfl
    have Nz:ys.map TL.tl=z.2:=by rw[i6,bz];exact Cn (λb=>by show b.toArray.toList=b;simp) _
    have e32:TL.tl Zyn=[32]:=by decide+kernel
    have BD:TL.tl Uj=[10]:=by decide+kernel
    have hS:TL.tl (Zl7 ys)=TL.m6 [32] z.2:=by rw[TL.join_eq,TL.HX,e32,Nz]
    have hSn:V.str (Zl7 ys++Str.ofString "\n")=aE (Vbwbal.line z.2):=by rw[adE,←hS,←BD];exact cb V.str (TL.ahb _ _)
    have cX:(Zl7 ys).length <=150:=by rw[TL.mZ,hS];rw[adE,bS]at hlz;omega
    have ams:∀zz:List Bytes,(∀w∈zz,w.length<=12)->(((zz.map λb=>(⟨b.toArray⟩:Str)).map λx=>x.length).sum)<=12*zz.length:=λzz=>by
     induction zz with
     |nil=>intro _;exact ZI
     |cons a r ih=>
      intro h;have h1:=ih λw hw=>ZqE;have h2:=h a aY;have h3:(⟨a.toArray⟩:Str).length =a.length:=by show a.toArray.size=_;simp
      rw[cw,cw,afq,bb,h3];omega
    refine⟨ys,.inl (ag.of (by rw[qh];exact Fu z cO)),?_,?_,?_⟩
    ·have h1:=ams z.2 fz.each;rw[←i6]at h1;have h2:ys.length=z.2.length:=by rw[i6,aq]
     have h3:=fz.len;rw[show(Str.ofString " ").length =1 by decide+kernel];omega
    ·rw[show(Str.ofString "\n").length =1 by decide+kernel,hsz];omega
    ·rw[hSn];refine⟨_,rfl,Zb,λH8 l8 s8 acE lA=>⟨l8,rfl,_,s8.at vx,_,lA,by rw[bA,bA];omega,(Zi _).mpr ⟨_,_,rfl,bV (s7.trans s8) oy (gf (s8.at vx)),?_,λz' br=>?_,?_⟩⟩⟩
     ·rw[ax acv];exact s8.at h72
     ·rw[ax (pO z' br)];exact s8.at (Fu z' br)
     ·rw[au,←lj,dA hz,cA,oT];simp
   ·intro σ H7 hv;ext cL;rw[fT,eg,Ny]at vx;have e:(sO P).flatMap Vbwbal.line=Vbwbal.shown P:=(ahz P).symm;rw[e]at vx;ext a;refine k H7 p3 s7 oy vx ?_;rw[←e];have:=K3 (sO P) (adt wf);have:=aex wf;omega
end
end
section
open Vbwbal (signer load goesWith fits unsigned choiceOf signed isSign signerOf textAt amendments)
abbrev atj:Zc:=["self","kind","target","person","text"]
theorem Tf:aV atj zf (aA DN):=Zl
abbrev afn:Zc:=["record","person","absent"]
theorem Tb:aV afn G0 (aA DJ):=Zl
abbrev asJ:Zc:=["record","entry"]
theorem R9:aV asJ BX (aA Jl):=Zl
abbrev asI:Zc:=["record","step","person"]
theorem R8:aV asI Gs (aA Jk):=Zl
abbrev asK:Zc:=["record","number","person","text"]
theorem R_:aV asK Gu (aA Jm):=Zl
abbrev asZ:Zc:=["record","number"]
theorem SA:aV asZ B2 (aA JA):=Zl
abbrev afm:Zc:=["record","entry"]
theorem S9:aV afm GY (aA DI):=Zl
abbrev atd:Zc:=["entry","number"]
theorem S7:aV atd B7 (aA JN):=Zl
abbrev afl:Zc:=["record","number","each","entry"]
theorem S8:aV afl GX (aA DH):=Zl
abbrev asx:Zc:=["record","number","count","text","entry"]
theorem RR:aV asx Gi (aA I_):=Zl
abbrev asu:Zc:=["record","count","answer","number","entry","text"]
theorem RM:aV asu Gh (aA IX):=Zl
abbrev En:=Vbwbal.Entry
abbrev Rc:=Vbwbal.Record
def cut(H:Hp)(L:Zy):Hp:=λb=>if b∈L then none else H b
theorem dQ{H:Hp}{L:Zy}{b:Addr}{o:HO}(h:ZaQ b=some o):H b=some o/\b∉L:=by
 unfold cut at h;by_cases e:b∈L
 ·rw[af e]at h;cases h
 ·rw[ae e]at h;exact⟨h,e⟩
theorem d_{H:Hp}{L:Zy}{b:Addr}{o:HO}(h:H b=some o)(hb:b∉L):ZaQ b=some o:=by unfold cut;rw[ae hb];exact h
theorem ji(H:Hp)(L:Zy):ah ZaQ H:=ah.all λb o h=>(dQ h).1
theorem vI{H:Hp}{L:Zy}{b:Addr}{o:HO}(h:b∈L):cut (ZH b o) L=Ua L:=by
 funext c;unfold cut;by_cases e:c∈L
 ·rw[af e,af e]
 ·rw[ae e,ae e,ax λq=>e (by rw[q];exact h)]
def jd(H:Hp)(L:Zy):Prop:=∀b∈L,∃xs,H b=some Yw
theorem HZ{H:Hp}{L:Zy}(hL:jd H L){P:Addr}(h:Vy P):Tab ZaQ P:=by
 obtain⟨ps,h1,h2,h3⟩:=h;have hn:∀b o,H b=some o->(∀xs,o≠.lst xs)->b∉L:=λb o e aK hb=>by obtain⟨xs,ex⟩:=hL b hb;rw[e]at ex;exact aK xs (bY ex)
 refine⟨ps,d_ h1 (hn _ _ h1 λxs e=>ZbA),h2,λpos cv e=>?_⟩;obtain⟨c,e1,e2⟩:=Zdv;exact⟨c,e1,d_ e2 (hn _ _ e2 λxs e=>ZbA)⟩
theorem jd.same{H H':Hp}{L:Zy}(h:jd H L)(s:Zd):jd H' L:=λb hb=>let⟨xs,e⟩:=h b hb;⟨xs,s.at e⟩
theorem iy{H H':Hp}{L:Zy}(s:Zd)(hL:jd H L):ah ZaQ (cut H' L):=by
 refine⟨λb o n e=>?_,λb ps e=>?_,λP h=>HZ (hL.same s) (s.tab P ((ji H L).tab P h))⟩
 ·obtain⟨e1,e2⟩:=dQ e;exact d_ (ZbR n e1) e2
 ·obtain⟨e1,e2⟩:=dQ e;obtain⟨p,hp⟩:=ZgL e1;exact⟨p,d_ hp e2⟩
theorem avx{H:Hp}{L:Zy}{b:Addr}(h:ZgV):ZaQ b=none:=by
 unfold cut;by_cases e:b∈L
 ·rw[af e]
 ·rw[ae e];exact h
def eK:En->Nat
 | .sign _ _=>0
 | .amend _ _ _=>1
def eT:En->Nat
 | .sign s _=>s
 | .amend e _ _=>e
def eP:En->Nat
 | .sign _ x=>x
 | .amend _ x _=>x
def eX:En->List Nat
 | .sign _ _=>[]
 | .amend _ _ t=>t
def mn(k t p x:V):Y6:=[("kind",k),("target",t),("person",p),("text",x)]
theorem Bz(k t p x:V):(mn k t p x).lookup ("kind":Str)=some k:=rfl
theorem NH(k t p x:V):(mn k t p x).lookup ("target":Str)=some t:=rfl
theorem NI(k t p x:V):(mn k t p x).lookup ("person":Str)=some p:=rfl
theorem adB(k t p x:V):(mn k t p x).lookup ("text":Str)=some x:=rfl
def wB(A:Ad)(H:Hp)(a:Addr)(x:En):Prop:=∃dx tx,H a=some (Zqb dx (mn (nat (eK x)) (nat (eT x)) (nat (eP x)) (.ref tx)))/\H tx=some (.lst (nats (eX x)))
theorem wB.same{A:Ad}{H H':Hp}{a:Addr}{x:En}(s:Zd)(h:wB A H a x):wB A H' a x:=by obtain⟨dx,tx,h1,h2⟩:=h;exact⟨dx,tx,UY,Zei⟩
def bC.aH(i:bC):Zy:=[i.ab,i.en,i.sg]
structure dM(A:Ad)(H:Hp)(r:Addr)(i:bC)(j:aW)(R:Rc):Prop where
 nd:i.aH.Nodup
 ins:YT r=some ZeL
 plan:ZkI YT i.p j R.plan
 absent:H i.ab=some (.lst (kO R.plan R.absent))
 ib:H i.sg=some (.lst (ZgI ZD))
 entries:∃zs:List (Addr×En),H i.en=some Wn/\zs.map Z1=R.entries/\∀z∈zs,wB A YT z.1 z.2
 tab:Vy A.tab
theorem dM.dO{A:Ad}{H:Hp}{r:Addr}{i:bC}{j:aW}{R:Rc}(h:Xn):jd H i.aH:=λb hb=>by
 unfold bC.aH at hb;obtain⟨zs,e,_⟩:=h.entries;rcases aJ.mp hb with q|hb
 ·exact⟨_,q▸h.absent⟩
 rcases aJ.mp hb with q|hb
 ·exact⟨_,q▸e⟩
 ·rw[bo.mp hb];exact⟨_,h.ib⟩
theorem dM.same{A:Ad}{H H':Hp}{r:Addr}{i:bC}{j:aW}{R:Rc}(s:Zd)(h:Xn):ZbM j R:=by have sc:=iy s h.dO;obtain⟨zs,e1,e2,e3⟩:=h.entries;exact⟨h.nd,sc.at h.ins,h.plan.same sc,s.at h.absent,s.at h.ib,⟨zs,s.at e1,e2,λz hz=>(e3 z hz).same sc⟩,s.tab _ h.tab⟩
theorem dM.fC{A:Ad}{H:Hp}{r:Addr}{i:bC}{j:aW}{R:Rc}(h:Xn):RecAt A H r i j R.plan R.absent ZD:=
 ⟨(dQ h.ins).1,h.plan.same (ji _ _),h.absent,h.ib,h.tab⟩
structure eJ(R:Rc):Prop where
 wf:Wf R.plan
 wc:gZ R.plan ZD
 ab:R.absent.Pairwise Vf
 vS:∀x∈R.absent,x<R.plan.persons.length
 vF:R.entries.length-(choiceOf R).length <=40
 texts:∀e∈R.entries,(eX e).length <=60
theorem aqN(R:Rc)(h:eJ R):(choiceOf R).length <=7:=by
 have h1:=oh R.plan.steps.length ((choiceOf R).map Zg) h.wc.nd λx hx=>by obtain⟨y,hy,rfl⟩:=Zg1;exact h.wc.steps y hy
 rw[aq]at h1;have:=h.wf.steps;omega
theorem eJ.len{R:Rc}(h:eJ R):R.entries.length<=47:=by have h1:=aqN R h;have h2:=h.vF;have h3:(choiceOf R).length <=R.entries.length:=O9 _ _;omega
def IE(A:Ad):Sp:=λvs H Q _=>∃(x dx:Addr) (a b c d:V),vs=[.ref x,a,b,c,d]/\H x=some (Zqb dx [])/\Q .ba (V8 (Zqb dx (mn a b c d)))
def Ru(A:Ad):Sp:=λvs H Q _=>∃(r:Addr) (i:bC) (j:aW) (P:Plan) (ab:Za) (c:Choice),vs=[.ref r]/\YI/\ZF/\
 ∀(H':Hp) (l:Addr),Zd->H l=none->H' l=some (.lst (nats ((List.range P.persons.length).filter λx=>Zi7)))->ZY H'
def IA(A:Ad):Sp:=λvs H Q _=>∃(r:Addr) (i:bC) (j:aW) (R:Rc) (z:Int),vs=[.ref r,.int z]/\Xn/\eJ R/\
 Q (.bl (decide (0<=z)&&Zbs z.toNat)) H
def IH(A:Ad):Sp:=λvs H Q _=>∃(a:Addr) (x:En) (n:Nat),vs=[.ref a,nat n]/\wB A H a x/\Q (.bl (decide (eK x=1)&&decide (eT x=n))) H
def Rr(A:Ad):Sp:=λvs H Q _=>∃(r:Addr) (i:bC) (j:aW) (R:Rc),vs=[.ref r]/\Xn/\eJ R/\
 ∀(H':Hp),Zd->Q (nat (R.entries.length-(choiceOf R).length)) H'
def Iv(A:Ad):Sp:=λvs H Q _=>∃(r e:Addr) (i:bC) (xs:Ze),vs=[.ref r,.ref e]/\H r=some ZeL/\H i.en=some Yw/\xs.length<=1000/\
 Q (nat xs.length) Zt6
def QU(A:Ad):Sp:=λvs H Q _=>∃(r:Addr) (i:bC) (j:aW) (R:Rc) (s x:Nat),vs=[.ref r,nat s,nat x]/\Xn/\eJ R/\s<R.plan.steps.length/\signer ZD s=none/\
 ∀(H':Hp),Zak->ZbM j {R with entries:=R.entries++[.sign s x]}->Zwp H'
def QV(A:Ad):Sp:=λvs H Q _=>∃(r a:Addr) (i:bC) (j:aW) (R:Rc) (e x:Nat) (t:Za),vs=[.ref r,nat e,nat x,.ref a]/\Xn/\eJ R/\YT a=some Zos/\
 ∀(H':Hp),Zak->ZbM j {R with entries:=R.entries++[.amend e x t]}->Zwp H'
def Rq(A:Ad):Sp:=λvs H Q _=>∃(r:Addr) (i:bC) (j:aW) (R:Rc) (n:Nat),vs=[.ref r,nat n]/\Xn/\eJ R/\
 ∀(H':Hp) (l:Addr),Zd->H l=none->H' l=some (.lst (nats (Zl0 n)))->ZY H'
theorem Dd(a b:Zed):signed Zek=signed a++signed b:=List.filterMap_append
theorem ahs{P:Plan}{c:Choice}{s x:Nat}(hs:s<P.steps.length)(hn:ZbO):(ic P c).set s XZ=ic P Yi:=by
 unfold ic;refine List.ext_getElem? λm=>?_;by_cases e:m=s
 ·subst e;rw[Hb (by rw[aq,eM];exact hs),cx,zm hs];show some XZ=some (lV (signer (c++[(m,x)]) m));rw[nV hn,af rfl];rfl
 ·rw[Cq Zgc,cx,cx];cases hm:(List.range P.steps.length)[m]? with
  |none=>rfl
  |some y=>
   obtain⟨rfl,_⟩:=uo hm;show some (lV (ZW y))=some (lV (signer Yi y));rw[nV hn,ae e]
theorem HY{H:Hp}{P b:Addr}{xs:Ze}{o:HO}(h:Vy P)(hb:H b=some Yw):Tab (ZH b o) P:=by obtain⟨ps,h1,h2,h3⟩:=h;refine⟨ps,by rw[ax (ie h1 hb (by intro z;cases z))];exact h1,h2,λpos cv e=>?_⟩;obtain⟨c,e1,e2⟩:=Zdv;exact⟨c,e1,by rw[ax (ie e2 hb (by intro z;cases z))];exact e2⟩
theorem bC.apart{i:bC}(h:i.aH.Nodup):i.ab≠i.en/\i.ab≠i.sg/\i.en≠i.sg:=by unfold bC.aH at h;obtain⟨nd1,rJ⟩:=df.mp h;obtain⟨KA,_⟩:=df.mp rJ;exact⟨λe=>nd1 (by rw[e];exact aY),λe=>nd1 (by rw[e];exact ZE aY),λe=>KA (by rw[e];exact aY)⟩
theorem bC.amf(i:bC):i.ab∈i.aH:=aY
theorem bC.ace(i:bC):i.en∈i.aH:=ZE aY
theorem bC.ame(i:bC):i.sg∈i.aH:=ZE (ZE aY)
theorem adg{A:Ad}{H H1 H4:Hp}{r e:Addr}{i:bC}{j:aW}{R:Rc}{x:En}{zs:List (Addr×En)}(hR:Xn)(h1:cut H1 i.aH=Ua i.aH)(l1:jd H1 i.aH)(t1:Zqj)(a1:H1 i.ab=H i.ab)
  (sg1:H1 i.sg=some (.lst (ZgI (signed (R.entries++[x]))))) (e1:H1 i.en=some Wn) (ez:zs.map Z1=R.entries) (hz:∀z∈zs,wB A YT z.1 z.2) (s:YH H4) (he:wB A (cut H4 i.aH) e x):
  ah YT (cut Zlr i.aH)/\dM A Zlr r i j {R with entries:=R.entries++[x]}:=by
 obtain⟨n1,n2,n3⟩:=bC.apart hR.nd;have sc:ah YT (cut Zlr i.aH):=by rw[vI i.ace,←h1];exact iy s l1
 refine⟨sc,hR.nd,sc.at hR.ins,hR.plan.same sc,?_,?_,⟨zs++[(e,x)],?_,?_,λz EM=>?_⟩,HY (s.tab _ t1) (s.at e1)⟩
 ·rw[ax n1];exact s.at (a1.trans hR.absent)
 ·rw[ax (λq=>n3 q.symm)];exact s.at sg1
 ·rw[au,qU];rfl
 ·rw[cA,ez];rfl
 ·rcases b8.mp EM with q|q
  ·exact(hz z q).same sc
  ·rw[bo.mp q,vI i.ace];exact he
theorem alh{H:Hp}{L:Zy}{b:Addr}{xs:Ze}(h:jd H L):jd (ZH b Yw) L:=λc hc=>by
 by_cases e:c=b
 ·rw[e];exact⟨xs,au⟩
 ·obtain⟨ys,hy⟩:=h c hc;exact⟨ys,by rw[ax e];exact hy⟩
theorem jd.og{H:Hp}{L:Zy}{b:Addr}(h:jd H L)(hb:ZgV):b∉L:=λhm=>by obtain⟨xs,e⟩:=h b hm;rw[hb]at e;cases e
theorem al2{l:Zed}{n:Nat}{x:En}(h:l[n]? =some x):isSign l n=decide (eK x=0):=by unfold isSign;rw[h];cases x<;>rfl
theorem adW:∀l:List En,(l.filter λx=>eK x==1).length =l.length-(signed l).length
 |[]=>rfl
 |x::r=>by
  have ih:=adW r;have hle:(signed r).length <=r.length:=O9 _ _;rw[jf];cases x with
  |sign s y=>
   have e:signed (.sign s y::r)=(s,y)::signed r:=rfl;rw[e,ae (by simp[eK]),ih,bb,bb];omega
  |amend e y t=>
   have e':signed (Zb4 y t::r)=signed r:=rfl;rw[e',af (by simp[eK]),bb,ih,bb];omega
section
variable {P:Program}{w:World}{K:PySem.W.Frag}{mg:Zx}{base:Heap}{A:Ad}
theorem aj4{f:Addr}{fd:FuncData}(T:Zm)(F:Zav "Entry.__init__" DN f fd):Z3 zf (IE A):=by
 have nd:=Tf.nd;refine F.ok Tf Zj Zn
 ·obtain⟨x,dx,a,b,c,d,rfl,_⟩:=h;rfl
 ·obtain⟨x,dx,a,b,c,d,rfl,hx,k⟩:=h;refine⟨_,(ao Zjg
   (ao (UJ ZR rfl)
   (ao (UJ ZG rfl)
   (ak (iY K (pv 0) (pv 4) rfl))))),?_⟩
  have n1:=Zfm;have n2:=Zob;have n3:=Zoa;have n4:=ZoU;simp! [hx,T.sM,n1,n2,n3,n4];exact Zq2
theorem akt{f:Addr}{fd:FuncData}(T:Zm)(F:Zo "absent_persons" "absent_persons" DJ f fd):Z3 G0 (Ru A):=by
 have nd:=Tb.nd;refine F.ok Tb Zj Zn
 ·ext L
 ·ext a6;have aT:=wf.persons;refine⟨_,(ak (ay (dW (own:=[("person",1),("absent",2)]) rfl nd Zij (show cB afn (aA DJ) _ _ from Yf) Zk9 (λ_ _ _ _ _=>iX Zpj) Zir))),?_⟩;have nn:=ZcR;simp! [hR.ins,T.dD,nn,Ab];refine⟨_,ZiU,Zq9 (λx=>Zi7) nat Zlq ZeD⟩;ext a1;ext r;simp! [yY];cases e:ab.contains z with
  |true=>exact Znt
  |false=>exact Zns
theorem ako{f:Addr}{fd:FuncData}(T:Zm)(F:Zo "amends" "amends" JN f fd):Z3 B7 (IH A):=by
 have nd:=S7.nd;refine F.ok S7 Zj Zn
 ·obtain⟨a,x,n,rfl,_⟩:=h;rfl
 ·obtain⟨a,x,n,rfl,⟨dx,tx,h1,h2⟩,k⟩:=h;refine⟨_,(ak (ay (lS (eE cS Ym Zpo ZP) (mW (eE cS Ym ZC ZP))))),?_⟩;have n1:=Zfm;have n2:=Zob;simp! [h1,T.sM,n1,n2,Bz,NH];cases x with
  |sign s y=>exact aF k
  |amend e y t=>
   ext e;have:(decide (eK (Zb4 y t)=1)&&decide (eT (Zb4 y t)=n))=decide (eT (Zb4 y t)=n):=by show(true&&_)=_;rw[fm]
   rw[this]at k;exact k
theorem ajS{f:Addr}{fd:FuncData}(T:Zm)(F:Zo "is_signature" "is_signature" JA f fd):Z3 B2 (IA A):=by
 have nd:=SA.nd;refine F.ok SA Zj Zn
 ·obtain⟨r,i,j,R,z,rfl,_⟩:=h;rfl
 ·obtain⟨r,i,j,R,z,rfl,hR,wr,k⟩:=h;refine⟨_,(ak (ay (lS (D6 n9 rE aR ZC Zkm) (mW (eE cS (aD K Zpk rfl) (bE T.M_ rfl) ZP))))),?_⟩;have n1:=Ul;have n2:=Zfm;ext E;ext y;have cE:zs.length=R.entries.length:=by rw[←ez,aq]
  simp! [hi,T.dD,n1,n2,pz];by_cases h0:(0 :Int)<=z
  ·rw[bu h0,fm]at k;rw[bu h0];obtain⟨n,rfl⟩:=Int.eq_ofNat_of_zero_le h0;refine ZsQ;rw[fT];have k':Q (.bl (Zbs n)) H:=k;by_cases bG:n<zs.length
   ·obtain⟨x,hx⟩:=fM bG;have hxe:R.entries[n]? =some x.2:=by rw[←ez,cx,hx];rfl
    obtain⟨dx,tx,e1,e2⟩:=(hz x (bI hx)).same (ji H i.aH);rw[bu (show(n:Int)<(zs.length:Int) by omega)];refine aI ⟨_,ZdJ,_,bQ (show(refs zs)[n]? =some (.ref x.1) by unfold refs;rw[cx,hx];rfl),x.1,rfl,_,_,_,e1,T.sM,n2,_,Bz _ _ _ _,rfl,?_⟩;rw[al2 hxe]at k';have:decide (nat (eK x.2)=V.int 0)=decide (eK x.2=0):=by rw[iS];simp only[bX,lY];omega
    rw[this];exact k'
   ·rw[aX (show¬(n:Int)<(zs.length:Int) by omega)];ext g;have:Zbs n=false:=by unfold isSign;rw[Cr Zb]
    rw[this]at k';exact k'
  ·rw[aX h0,gK]at k;rw[aX h0];exact aF k
theorem akq{f:Addr}{fd:FuncData}(T:Zm)(F:Zo "amendment_count" "amendment_count" DI f fd):Z3 GY (Rr A):=by
 have nd:=S9.nd;refine F.ok S9 Zj Zn
 ·obtain⟨r,i,j,R,rfl,_⟩:=h;rfl
 ·obtain⟨r,i,j,R,rfl,hR,wr,k⟩:=h;refine⟨_,(ak (ay (XI (aa (dW (own:=[("entry",1)]) rfl nd (ZS Ym) (show cB afm (aA DI) _ _ from Yf) ZeS (λ_ _ _ _ _=>iX (WG Zc4 Zpo ZP)) Zir) ai)))),?_⟩;have n1:=Ul;have n2:=Zfm;ext E;ext y;have cE:zs.length=R.entries.length:=by rw[←ez,aq]
  have kH:=wr.len;simp! [hi,T.dD,n1,pz];refine⟨⟨_,ZdJ⟩,e8 (zs:=zs) ZdJ (fT _) Zb (λz=>eK z.2==1) (λz=>ZaI) (λm v z H' hv cO s1 R' S bc hS=>?_) W9⟩
  ·obtain⟨z',br,rfl⟩:=qT hv;rw[cO]at br;cases br
   obtain⟨dx,tx,e1,e2⟩:=(hz z (bI cO)).same ((ji H i.aH).trans s1);simp! [e1,T.sM,n2,Bz];cases e:(eK z.2==1)with
   |true=>
    have:((eK z.2:Nat):Int)=1:=by have:=eq_of_beq e;omega
    rw[bu this];exact Zi1
   |false=>
    have:¬((eK z.2:Nat):Int)=1:=by have:=ne_of_beq_false e;omega
    rw[aX this];exact Zi0
  ·refine⟨_,.inl ⟨_,ZaV,rfl⟩,?_⟩;have e1:(List.map (λz=>V.ref z.1) (zs.filter λz=>eK z.2==1)).length =R.entries.length-(choiceOf R).length :=by rw[aq];unfold choiceOf;rw[←adW,←ez,wm,aq];rfl
   rw[e1];exact Wx
theorem ajr{f:Addr}{fd:FuncData}(T:Zm)(F:Zo "put_entry" "put_entry" Jl f fd):Z3 BX (Iv A):=by
 have nd:=R9.nd;refine F.ok R9 Zj Zn
 ·obtain⟨r,e,i,xs,rfl,_⟩:=h;rfl
 ·obtain⟨r,e,i,xs,rfl,hi,he,hl,k⟩:=h;refine⟨_,(ao (dU (WK Ym Wr))
   (ak (ay (cR rD (bW (c6 K) (by rfl) T.cM cU (aa (aD K (pv 0) rfl) ai)) aR)))),?_⟩
  have n1:=Ul;ext c;have aK:r≠i.en:=ie hi he (by intro z;cases z);have hi2:Zt6 r=some ZeL:=by rw[ax aK];exact hi
  simp! [hi,T.dD,n1,pz,cQ he];refine⟨xs,he,Zb,?_⟩;simp! [hi2,T.dD,n1,pz];refine⟨_,.inl ⟨_,ag.of au,rfl⟩,?_⟩;have:V.int (((xs++[V.ref e]).length :Int)-1)=nat xs.length:=by rw[bS,O8];show V.int _=V.int _;congr 1;omega
  rw[this];exact k
theorem ajq{f:Addr}{fd:FuncData}(T:Zm)(yD:Zvs)(yK:Zum)(F:Zo "put_signature" "put_signature" Jk f fd):VO Gs (QU A):=by
 have nd:=R8.nd;refine F.ok R8 Zj Zn
 ·obtain⟨r,i,j,R,s,x,rfl,_⟩:=h;rfl
 ·obtain⟨r,i,j,R,st,x,rfl,hR,wr,aT,gD,k⟩:=h;refine⟨_,(ao (Kf ZR (Ki Ym ZC set_list))
   (ak (ay (az yD hr rfl (aa (pv 0) (aa (rq yK hr rfl (aa (bE T.M_ rfl) (aa (pv 1) (aa (pv 2) (aa (bh ai) ai))))) ai)))))),?_⟩
  have n1:=ZcO;ext E;ext c;ext y;obtain⟨na1,na2,na3⟩:=bC.apart hR.nd;have cE:zs.length<=47:=by have:=wr.len;rw[←ez,aq]at this;exact this
  simp! [hi,T.dD,n1,xj];refine⟨_,hR.ib,st,EI (by rw[Ry];exact aT),ZI,?_⟩;rw[ahs aT gD];intro p hp x3 dx md gE gU;refine Zur;rw[jh];obtain⟨H1,fw⟩:∃H1,H1=ZH i.sg (.lst (ZgI (choiceOf R++[(st,x)]))):=Zs;rw[←fw]at hp md gE⊢;have l1:jd H1 i.aH:=by rw[fw];exact alh hR.dO
  have s2:YH (Yr p Yh):=WD;have s4:=zT (o:=Zle) s2 md gE gU;obtain⟨H4,sD⟩:∃H4,H4=upd (upd (Yr p Yh) dx (.own x3)) x3 Zle:=Zs;rw[←sD]at s4⊢;have he1:H1 i.en=some Wn:=by rw[fw,ax na3];exact he
  have Lm:H4 x3=some Zle:=by rw[sD];exact au
  have hpx:p≠x3:=λe=>by rw[←e,au]at md;cases md
  have LC:p≠dx:=λe=>by rw[←e,au]at gE;cases gE
  have r9:H4 p=some Yh:=by rw[sD,ax hpx,ax LC];exact au
  have vg:H1 r=some ZeL:=by rw[fw,ax (ie hi hR.ib (by intro z;cases z))];exact hi
  obtain⟨f1,f2⟩:=adg (e:=x3) (x:=.sign st x) hR (by rw[fw];exact vI i.ame) l1 (by rw[fw];exact HY hR.tab hR.ib) (by rw[fw,ax na2]) (by rw[fw,au,Dd];rfl) he1 ez hz s4
   ⟨dx,p,d_ Lm (l1.og (s2.free md)),d_ r9 (l1.og hp)⟩
  refine⟨r,x3,i,Zb3,rfl,s4.at vg,s4.at he1,Zi3,?_⟩;have:(refs zs).length =R.entries.length:=by rw[fT,←ez,aq]
  rw[this];exact k _ f1 f2
theorem ajs{f:Addr}{fd:FuncData}(T:Zm)(yD:Zvs)(yK:Zum)(F:Zo "put_amendment" "put_amendment" Jm f fd):VO Gu (QV A):=by
 have nd:=R_.nd;refine F.ok R_ Zj Zn
 ·obtain⟨r,a,i,j,R,e,x,t,rfl,_⟩:=h;rfl
 ·obtain⟨r,a,i,j,R,en,x,t,rfl,hR,wr,ha,k⟩:=h;refine⟨_,(ak (ay (az yD hr rfl (ZL (aa (rq yK hr rfl (aa Zpo (Xi (X2 X7)))) ai))))),?_⟩;ext E;ext y;have cE:zs.length<=47:=by have:=wr.len;rw[←ez,aq]at this;exact this
  obtain⟨j6,jF⟩:=dQ ha;ext a;intro x3 dx md gE gU;refine Zur;rw[jh];have s4:=zT (o:=Zlf) ZfX md gE gU;obtain⟨H4,sD⟩:∃H4,H4=upd (ZH dx (.own x3)) x3 Zlf:=Zs;rw[←sD]at s4⊢;have Lm:H4 x3=some Zlf:=by rw[sD];exact au
  obtain⟨f1,f2⟩:=adg (e:=x3) (x:=.amend en x t) hR rfl hR.dO hR.tab rfl (by rw[Dd];exact hR.ib.trans (by show some (HO.lst (ZgI ZD))=some (HO.lst (ZgI (choiceOf R++[])));rw[fc])) he ez hz s4
   ⟨dx,a,d_ Lm (hR.dO.og md),d_ (s4.at j6) jF⟩
  refine⟨r,x3,i,Zb3,rfl,s4.at hi,s4.at he,Zi3,?_⟩;have:(refs zs).length =R.entries.length:=by rw[fT,←ez,aq]
  rw[this];exact k _ f1 f2
end
end
section
open Vbwbal (signer load goesWith fits unsigned choiceOf signed isSign signerOf textAt amendments entryTold)
def QK(A:Ad):Sp:=λvs H Q _=>∃(r:Addr) (i:bC) (j:aW) (R:Rc) (n k:Nat),vs=[.ref r,nat n,nat k]/\Xn/\eJ R/\
 ∀(H':Hp) (l:Addr),Zd->H' l=some (.lst (nats (ZiS k n)))->ZY H'
def QJ(A:Ad):Sp:=λvs H Q _=>∃(r:Addr) (i:bC) (j:aW) (R:Rc) (k:Nat),vs=[.ref r,nat k]/\Xn/\eJ R/\k<=R.entries.length/\
 ∀(H':Hp) (l:Addr),Zd->H l=none->H' l=some (.lst (iv ((List.range k).flatMap (ZhA k))))->((List.range k).flatMap (ZhA k)).length <=10000->ZY H'
section
variable {K:PySem.W.Frag}{a:Addr}{g:TG}{tb:TS}{D:Ends}{σ:L2.St}{H:Hp}
theorem aox(xs:Ze)(Pv:Zag)(h0:ZaM)(hl:ZlE)
  (hs:∀(i:Nat) x T σ H,xs[i]? =some x->X9->H T=none->Zjo ZvG fun σ2 H2=>tb {D with nx:=Pv (i+1),ct:=Pv (i+1),bk:=D.nx} σ2 H2) (hd:Zcy):qw ZkQ g tb D σ H:=by
 refine Zg9
 ·ext ac
 ·ext b8
end
section
variable {P:Program}{w:World}{K:PySem.W.Frag}{mg:Zx}{base:Heap}{A:Ad}
theorem akp{f:Addr}{fd:FuncData}(T:Zm)(yJ:Zwr)(F:Zo "amendments_of" "amendments_of" DH f fd):X8 GX (Rq A):=by
 have nd:=S8.nd;refine F.ok S8 Zj Zn
 ·obtain⟨r,i,j,R,n,rfl,_⟩:=h;rfl
 ·obtain⟨r,i,j,R,n,rfl,hR,wr,k⟩:=h;refine⟨_,(ak (ay (dW (own:=[("each",2),("entry",3)]) rfl nd Zij (show cB afl (aA DH) _ _ from Yf) ZyJ (λ_ _ _ _ _=>iX (Z4 (az yJ hr rfl (aa ZG Wr)) Z0)) ZyK))),?_⟩;have n1:=Ul;ext E;ext y;have cE:zs.length=R.entries.length:=by rw[←ez,aq]
  have kH:=wr.len;simp! [hi,T.dD,n1,pz];refine⟨_,ZdJ,Ey (zs:=List.range R.entries.length) ZdJ (by rw[fT,eM,cE]) (by rw[eM];omega) (λm=>match R.entries[m]? with |some (.amend f _ _)=>f==n|_=>false) nat (λm x z H' Tp hx cO s1 hT R' S bc hS=>?_) ZeD⟩;obtain⟨rfl,bG⟩:=uo cO;obtain⟨y,hy,rfl⟩:=qT hx;have hye:R.entries[z]? =some y.2:=by rw[←ez,cx,hy];rfl
  have s2:ah H' (Wy Tp (.tup [nat z,.ref y.1])):=a0 hT;ext r;have hE:=(hz y (bI hy)).same (((ji H i.aH).trans s1).trans s2);ext a;refine⟨y.1,y.2,n,rfl,hE,_,rfl,?_⟩;have ek:(match R.entries[z]? with |some (.amend f _ _)=>f==n|_=>false)=(decide (eK y.2=1)&&decide (eT y.2=n)):=by
   rw[hye];cases y.2 with
   |sign a b=>rfl
   |amend a b c=>
    show(a==n)=(true&&decide (a=n));rw[fm];rfl
  cases e:(decide (eK y.2=1)&&decide (eT y.2=n))with
  |true=>exact aI (bc (ek.trans e) _ s2)
  |false=>exact aF (hS (ek.trans e) _ s2)
theorem adU(xs:Ze)(k:Nat):ja xs none Zo5=xs.take k:=by unfold ja;rw[HT.DQ,HT.Tt,afI,Nat.sub_zero,List.take_eq_take_iff];omega
theorem agV{l:Zed}{m n:Nat}{x:En}(h:l[m]? =some x):textAt l XH n=if(decide (eK x=1)&&decide (eT x=n))=true then eX x else textAt l m n:=by
 unfold textAt;rw[dA h,Pa];cases x with
 |sign a b=>rfl
 |amend a b c=>
  show(if a=n then c else _)=if(true&&decide (a=n))=true then c else _
  rw[fm];by_cases e:a=n
  ·rw[af e,af (bu e)]
  ·rw[ae e,ae Znw]
theorem aja{f:Addr}{fd:FuncData}(T:Zm)(yJ:Zwr)(F:Zo "text_as_of" "text_as_of" I_ f fd):X8 Gi (QK A):=by
 have nd:=RR.nd;refine F.ok RR Zj Zn
 ·obtain⟨r,i,j,R,n,k,rfl,_⟩:=h;rfl
 ·obtain⟨r,i,j,R,n,kk,rfl,hR,wr,k⟩:=h;refine⟨_,(ao (XW WU)
   (ao (dN dF rfl (ZS (ZgJ Ym pD (kZ ZR))) VM (ak (bg (Z4 (az yJ hr rfl (Zco Wr)) Z0) (ak (XW ZoW)) bp)))
   (ak (ay (pv 3))))),?_⟩
  have n1:=Ul;have n2:=ZoU;ext E;ext c;ext y;have cE:zs.length=R.entries.length:=by rw[←ez,aq]
  have kH:=wr.len;simp! [b7];intro l0 cY;ext bC;have nj:l0≠p:=λe=>by rw[←e,au]at hp;cases hp
  ext ce;have bH:H2 l0=some Yh:=by rw[fL,ax nj];exact au
  have dP:H2 p=some ZeE:=by rw[fL];exact au
  obtain⟨Pv,aB⟩:∃Pv:Nat->L2.St->Hp->Prop,∀m σ H',YG H'↔∃(l:Addr) (v4:ZM),σ=[some Yl,some (nat n),some (nat kk),some Z5,v4]/\H'=H2/\H2 l=some (.lst (nats (ZiS (min m kk) n))):=Ye;refine⟨⟨_,ag.of dP⟩,gH (refs ZfL) Pv ((Zi _).mpr ⟨l0,none,rfl,rfl,by rw[bH];simp[textAt,nats]⟩) (λi σ H' _ hv=>let⟨_,_,_,e,_⟩:=(Zi _).mp hv;by rw[e];exact ag.of dP) ?_ ?_⟩
  ·ext aC;ext db;obtain⟨z,cO,rfl⟩:=qT hy;have ya:m<kk:=by have:=ll cO;rw[eY]at this;omega
   rw[afy ya]at cO;have pN:R.entries[m]? =some z.2:=by rw[←ez,cx,cO];rfl
   have hE:=(hz z (bI cO)).same ((ji H i.aH).trans s2);have e1:min XH kk=m+1:=by omega
   have e2:min m kk=m:=by omega
   have et:=agV (n:=n) pN;rw[e2]at hl;ext a;refine⟨z.1,z.2,n,rfl,hE,_,rfl,?_⟩;cases e:(decide (eK z.2=1)&&decide (eT z.2=n))with
   |true=>
    ext e;obtain⟨dx,tx,q1,q2⟩:=hE;simp! [q1,T.sM,n2,adB];refine(Zi _).mpr ⟨tx,_,rfl,rfl,?_⟩;rw[e1,et,af e];exact q2
   |false=>
    refine aF ((Zi _).mpr ⟨l,_,rfl,rfl,?_⟩);rw[e1,et,ae (by rw[e];simp)];exact hl
  ·ext B;ext db;ext a;refine k H3 l s2 ?_;rw[hl];congr 2;unfold nats;congr 1;rw[fT,eY];unfold textAt;congr 1;rw[List.take_eq_take_iff];omega
theorem Qh{R:Rc}(wr:eJ R)(k n:Nat):(ZiS k n).length <=60:=by
 unfold textAt;have:∀(l:Zed) (t:Za),t.length<=60->(∀e∈l,(eX e).length <=60)->(l.foldl (λt x=>match x with | .amend f _ u=>if f=n then u else t|_=>t) t).length <=60:=by
  intro l
  induction l with
  |nil=>intro t ht _;exact ht
  |cons x r ih=>
   intro t ht h;rw[wk];refine ih _ ?_ λe he=>h e (ZE he);cases x with
   |sign a b=>exact ht
   |amend a b c=>
    show(if a=n then c else t).length <=60;split
    ·exact h _ aY
    ·exact ht
 exact this _ [] ZI λe he=>wr.texts e (Cm he)
def CM(l:Zed)(k m:Nat)(x:En):Za:=[eK x,eT x,eP x]++((if eK x=0 then textAt l k m else eX x).length ::(if eK x=0 then textAt l k m else eX x))
theorem agO{l:Zed}{k m:Nat}{x:En}(h:l[m]? =some x):entryTold l k m=(CM l k m x).map Int.ofNat:=by unfold entryTold;rw[h];cases x<;>rfl
theorem ai5{f:Addr}{fd:FuncData}(T:Zm)(MB:Zw "text_as_of" Gi 2 (QK A))(dZ:Ui)(F:Zo "viewed" "viewed" IX f fd):VO Gh (QJ A):=by
 have nd:=RM.nd;refine F.ok RM Zj Zn
 ·obtain⟨r,i,j,R,k,rfl,_⟩:=h;rfl
 ·obtain⟨r,i,j,R,kk,rfl,hR,wr,LW,k⟩:=h;refine⟨_,(ao ZdB
   (ao (dN dF rfl (Ak K rfl T.uK (aa (ZgJ Ym pD (kZ ZC)) ai)) ZtB (ao (Zeh (xn (WG ZoW (bE T.M_ rfl) ZP) (az MB hr rfl (ZL (aa ZG Wr))) ZoW))
   (ak (dU (dq K dE ql qk oj (pv 2) (aa (cR lg (bh (aa (aD K (pv 4) rfl) (aa (aD K (pv 4) rfl) (aa (aD K (pv 4) rfl) ai)))) (az dZ hr rfl (aa (pv 5) ai))) ai))))))
   (ak (ay (pv 2))))),?_⟩
  have n1:=Ul;have n2:=ZoU;have n3:=Zfm;have n4:=Zob;have n5:=Zoa;ext E;ext c;ext y;have cE:zs.length=R.entries.length:=by rw[←ez,aq]
  have kH:=wr.len;simp! [b7];intro l0 cY;ext bC;have nj:l0≠p:=λe=>by rw[←e,au]at hp;cases hp
  ext ce;have bH:H2 l0=some Yh:=by rw[fL,ax nj];exact au
  have dP:H2 p=some ZeE:=by rw[fL];exact au
  obtain⟨tl,pR⟩:∃tl:Nat->Za,∀m x,R.entries[m]? =some x->tl m=CM R.entries kk m x:=⟨λm=>match R.entries[m]? with |some x=>CM R.entries kk m x|none=>[],λm x h=>by simp only[h]⟩;have acj:∀m x,R.entries[m]? =some x->(tl m).length <=64:=λm x h=>by rw[pR m x h];have h1:=Qh wr kk m;have h2:=wr.texts x (bI h);unfold CM;simp only[bS,bb,jM];split<;>omega
  have sq:∀m,m<=R.entries.length->((List.range m).flatMap tl).length <=64*m:=λm=>by
   induction m with
   |zero=>intro _;exact ZI
   |succ m ih=>
    intro h;have h1:=ih Zb;obtain⟨x,hx⟩:=Zwy Zb;have h2:=acj m x hx;rw[Cj,oT,bS];simp only[iR,Pb,fc];omega
  obtain⟨Pv,aB⟩:∃Pv:Nat->L2.St->Hp->Prop,∀m σ H',YG H'↔∃(v3 v4 v5:ZM),σ=[some Yl,some (nat kk),some (.ref l0),v3,v4,v5]/\Zd/\H' p=some ZeE/\H' l0=some Zlp:=Ye;refine⟨_,ag.of dP,?_⟩;refine aox (refs ZfL) Pv ((Zi _).mpr ⟨none,none,none,rfl,s2,dP,bH⟩) (λi σ H' _ hv=>let⟨_,_,_,_,_,e,_⟩:=(Zi _).mp hv;ag.of e) ?_ ?_
  ·intro m y Tp σ H3 hy hv hTp;ext cQ;obtain⟨z,cO,rfl⟩:=qT hy;have ya:m<kk:=by have:=ll cO;rw[eY]at this;omega
   rw[afy ya]at cO;have pN:R.entries[m]? =some z.2:=by rw[←ez,cx,cO];rfl
   have s4:Wj Zti:=Za5;have ug:=ZfZ;ext r;obtain⟨dx,tx,q1,q2⟩:=(hz z (bI cO)).same ((ji H i.aH).trans ug);have et:=pR m z.2 pN;have pU:=sq m Zb;have htm:=acj m z.2 pN;obtain⟨o8,xQ⟩:∃o8,o8=(if eK z.2=0 then ZiS kk m else eX z.2):=Zs;have Nz:tl m=[eK z.2,eT z.2,eP z.2]++(o8.length::o8):=by rw[et,xQ];rfl
   have auO:o8.length<=60:=by
    rw[xQ];split
    ·exact Qh wr kk m
    ·exact wr.texts z.2 (bI pN)
   have fin:∀(H5:Hp) (l5:Addr),ah Zti H5->H5 l5=some (.lst (nats o8))->CI K "list" (V.ref l0) H5/\3<=sizeLine/\∀rB,H5 rB=none->kT [V.ref l5] (upd H5 rB ZrW) (λy H2=>∃x,y=.ref x/\∃x_1,H2 rB=some (.lst x_1)/\∃x_2,H2 x=some (.lst x_2)/\x_1.length+x_2.length<=sizeLine/\
     ∀p_2,H2 p_2=none->∃x_3,upd H2 p_2 (.lst (x_1++x_2)) l0=some (.lst x_3)/\x_3.length+(x_1++x_2).length <=sizeLine/\Pv (m+1) [some (.ref r),some (nat kk),some (.ref l0),some (nat m),some (.ref z.1),some (.ref l5)] (upd (upd H2 p_2 (.lst (x_1++x_2))) l0 (.lst (x_3++(x_1++x_2))))) E0:=λH5 l5 s5 h5=>by
    have jB:=(s4.trans s5).at b0;refine⟨cQ jB,X5,λp1 oz=>?_⟩;have s6:ah H5 (upd H5 p1 ZrW):=a0 oz;refine⟨l5,nats o8,rfl,s6.at h5,by rw[bA];omega,λH7 l7 s7 acF pX=>⟨l7,rfl,_,s7.at au,_,pX,by simp only[bb,jM,bA];omega,λp2 dP=>?_⟩⟩;have JQ:=Zjz;have xc:=ug.trans (s5.trans JQ);have acG:H7 l0=some Zlp:=JQ.at jB;have auU:l0≠p2:=cg acG dP;obtain⟨H8,oH⟩:∃H8,H8=upd H7 p2 (.lst ([nat (eK z.2),nat (eT z.2),nat (eP z.2)]++nat (nats o8).length ::nats o8)):=Zs;rw[←oH];have xb:ah H7 H8:=by rw[oH];exact a0 dP
    have lA:H8 l0=some Zlp:=xb.at acG;refine⟨_,lA,?_,(Zi _).mpr ⟨_,_,_,rfl,bV (xc.trans xb) cY (gf lA),?_,?_⟩⟩
    ·simp only[bS,bb,jM,bA];omega
    ·rw[ax (λe=>nj e.symm)];exact(s4.trans (s5.trans (JQ.trans xb))).at jZ
    ·rw[au,Cj,oT];simp only[iR,Pb,fc];rw[Nz,lj,lj,bA];rfl
   have au6:=s4.at b0;simp! [q1,T.sM,n3,Bz];cases nq:decide (((eK z.2:Nat):Int)=0)with
   |true=>
    have gT:eK z.2=0:=by have:=lW nq;omega
    rw[af gT]at xQ;ext e;refine⟨r,i,j,R,m,kk,rfl,hR.same ug,wr,λH5 l5 s5 h5=>?_⟩;rw[←xQ]at h5;have q15:=s5.at q1;simp! [q15,T.sM,n3,n4,n5,Bz,NH,NI];exact fin H5 l5 s5 h5
   |false=>
    have gT:¬eK z.2=0:=by have:=of_decide_eq_false nq;omega
    rw[ae gT]at xQ;ext g;simp! [n2,n4,n5,adB,NH,NI];rw[xQ]at fin;exact fin _ tx ZU q2
  ·ext B;ext cQ;have e1:(refs ZfL).length =kk:=by rw[fT,eY];omega
   rw[e1]at b0;ext a;have e2:(List.range kk).flatMap (ZhA kk)=((List.range kk).flatMap tl).map Int.ofNat:=by rw[O6];refine FN λm hm=>?_;obtain⟨x,hx⟩:=Zwy (by have:=dS.mp hm;omega);rw[agO hx,pR m x hx]
   refine k H3 l0 s3 cY ?_ ?_
   ·rw[b0,e2,EJ]
   ·rw[e2,aq];have:=sq kk LW;omega
end
end
section
theorem aqh{prog:Program}{w:World}{A:Around}(hh:Vc)(it l:Addr)(aK:l≠it)(xs:YN):
  Draws prog w A it [it,l] (xs.size+1) (λi v=>xs[i-1]? =some v) (λi h=>1<=i/\Zfo l (i-1)/\h.IsList l xs):=by
 have D:=Draws.list (prog:=prog) (w:=w) hh it l aK xs;refine⟨λi h st=>D.live (i-1) h st.2,λi h h' st k=>⟨st.1,D.frame (i-1) h h' st.2 k⟩,λi s Q E hi st hQ=>?_,λs Q E st hE=>D.done s Q E st.2 hE⟩;have h1:=st.1;refine D.item (i-1) s Q E Zb st.2 λx h' tk p gy sb=>hQ x h' tk p ⟨Zb,?_⟩ sb;have e:i+1-1=i-1+1:=by omega
 rw[e];exact gy
def Pl(K:PySem.W.Frag)(a:Addr):It:=
 ⟨λi H=>∃(xs:Ze) (x:V),YJ/\xs[i]? =some x,λi H v H'=>∃T x,v=.ref T/\H T=none/\H'=ZH T Ze1/\∀xs,YJ->xs[i]? =some x,λi H=>∃xs:List V,YJ/\xs.length<=i⟩
theorem agH{P:Program}{w:World}{K:PySem.W.Frag}{elts:Ya}{kk:Nat}{fQ:Pos}(a e it:Addr):
  Turn P w K VC (Pl K a) [e,it] e (λi h=>(∃old,IsEnum h e it ((i+1 :Nat):Int) old)/\Zfo a i/\e≠it) where
 mem:=aY
 obj:=λi h st b hb=>by
  ext cU;rcases aJ.mp hb with z|hb
  ·subst z;refine⟨_,he,λv q=>?_⟩;cases q
  ·exact⟨o,by rw[bo.mp hb];exact ho,λv q=>ZxV⟩
 keep:=λi h h' st k=>⟨st.1.imp λold he=>k e Zh _ he,st.2.1.at λo q=>UX o q,st.2.2⟩
 item:=by
  ext ck;ext bK;have LY:it<s.heap.objs.size:=by obtain⟨_,q,_⟩:=hit;exact bT q
  have hai:a≠it:=λz=>by
   ext b3
   rw[c1]at c2;exact ZpK
  have hea:e≠a:=λz=>by
   obtain⟨o2,q2,c2,_⟩:=p.isList;rw[←z,he]at q2;cases q2
   exact ZpK
  have hiu:its.toArray[i]? =some u:=by simpa using hu
  have bG:i+1<its.toArray.size+1:=by have:=(aty.mp hiu).1;omega
  refine wpAny_pyNext_enum_itemD (i:=i+1) (aqh (A:=X.A.in1) (I.ok.hd hcalm) it a hai its.toArray) he ⟨Zb,hit,p.isList⟩ bG aK (by simp[aK,hea]) λy h' tk hy ho gy hT hsz hk=>?_;have eyu:y=u:=bY (hy.symm.trans hiu);subst eyu;refine⟨_,rfl,agd (s:={s with heap:=h',toks:=tk+1}) ho λjH L8 sb=>?_⟩;have vp:jH.get? s.heap.objs.size=some {cls:=Xy,data:=.seq #[ZxC tk,y]}:=(Zcu (oR kH)).trans hT;have new:WM (Wl Ze1) jH s.heap.objs.size Ze1:=
   ⟨Zma,[ZxC tk,y],.cons Zs Zop,Zii⟩
  have I1:ZQ (Wl Ze1) {s with heap:=jH,toks:=tk+1}:=
   I.CJ (ch:=[e,it]) ZqY hf ZA new
  refine⟨Yn,_,I1,rfl,ZrF,⟨⟨y,L8⟩,?_,aK⟩,λb hb=>?_⟩
  ·exact gy.2.1.at λo q=>(sb.2 it (qt aK)).trans q
  ·have fi:b<s.heap.objs.size:=by
    rcases aJ.mp hb with z|z
    ·rw[z];exact kH
    ·rw[bo.mp z];exact LY
   rw[ax (eB fi)];exact(hf b hb).1
 done:=by
  ext ck;obtain⟨⟨old,he⟩,hit,aK⟩:=st;obtain⟨xs,hq,hx⟩:=hg;obtain⟨its,rv,p,hz⟩:=UL;ext bb;have hl:=rv.length;have hai:a≠it:=λz=>by
   ext b3
   rw[c1]at c2;exact ZpK
  refine wpAny_pyNext_enum_endD (n:=i+1) (P:=λ_ _=>False) (St:=λm h=>m=i+1/\Zfo a i/\h.IsList a its.toArray) (fp:=[it,a]) ⟨λm h st=>let⟨o,ho,_⟩:=st.2.1;⟨o,ho⟩,λm h h' st k=>⟨st.1,st.2.1.at λo q=>UX o q,st.2.2.at λo q=>k a Zh o q⟩,λm s Q E hm st _=>?_,λs Q E st hE=>?_⟩ he ⟨rfl,hit,p.isList⟩ λh' eb=>ZrN
  ·have:=st.1;omega
  ·exact wpAny_nextOf_list_end (I.ok.hd hcalm) st.2.1 st.2.2 (by simp;omega) hE
 self:=λA i s Q E st h=>let⟨⟨_,he⟩,_⟩:=st;HB he h
def AL(K:PySem.W.Frag)(ta:TA):TI:=fun σ H R=>Xb H λvs H1=>∃a xs,vs=[.ref a]/\UA/\R (Pl K a) H1
theorem ars{M:Model}{A:Around}{E:Zt}{s:Shared}{env:Env}{pos:Pos}{e:Expr}{uS:List Keyword}{Q:Zt}
  (h:Vl (spliced (Xa Ze7)) (λvs s₁=>Vl (evalAll ((ZbF ZcM).map Z1)) (λkvs s₂=>Vl (call Uk vs (((ZbF ZcM).filterMap Zg).zip kvs)) Q E s₂) E s₁) E s)
  (he:Xa Ze7=(false,ZqB)::Xa (starEach [] env)) (cC:(Xa Ze7).any Zg=false)
  (dB:(ZbF ZcM).all (·.1.isSome)=true) (hkw:(ZbF ZcM).any (·.1.isNone)=false):
  wpAny M A (callWith pos Uk [] (Xa Ze7) (ZbF ZcM)) Q E s:=by
 have h2:Vl (evalArgs Uk true (Xa Ze7) (ZbF ZcM)) (λa s₁=>Vl (call Uk ([]++a.pos) a.kw) Q E s₁) E s:=by rw[he]at h⊢;exact evalArgs_kwB dB h
 unfold callWith;refine aj (nN (gL h2 (λa s₁ h₁=>aj (Cy ?_)) λ_ _ x=>x));simp only[cC,hkw,PD];exact aj (aL (aj (gL h₁ (λr s₂ hr=>aj (nN (wpAny_point (aL hr)))) λ_ _ x=>x)))
theorem ail{X:Cx}{e:Expr}{ta:TA}{p pos fQ kp cp:Pos}{elts:Ya}{kk j:Nat}(K:PySem.W.Frag)(hg:Zou)(hm:Zm4)(ha:PA X [e] ta)(hK:X.K=K:=by rfl)
  (hs:starEach [e] X.env=[(false,Yv)]:=by rfl):
  PI X VC (.Call ZwJ [e] [⟨some "start",.Constant Vt j cp,kp⟩] pos) (AL K ta):=by
 subst hK;ext w;refine tj (ZfB boot_enumerate ?_ Zk Zk);refine ars ?_ (by rw[hs];rfl) (by rw[hs];rfl) rfl rfl;refine aM Zhn λus s1 ⟨vs,H1,I1,r1,q1⟩=>?_;obtain⟨a,xs,ex,hq,q⟩:=q1;subst ex;refine kws_cons (aM (aR pins s1 σ H1 (λv H2=>v=.int 1/\H2=H1) I1 Uy) λcv s2 ⟨v,H2,I2,r2,e1,e2⟩=>kws_nil ?_);subst e1 e2;obtain⟨tk,rfl⟩:=r2;cases r1 with
 |cons r rr=>
  cases rr
  cases r
  obtain⟨its,rv,p',hz⟩:=I2.list hq;show YF (call Uk [.ref a] (wt (Vt tk))) _ _ s2;refine arp p'.isList λh' he hit hk=>HB he ?_;refine⟨s2.heap.objs.size+1,[s2.heap.objs.size+1,s2.heap.objs.size],_,_,H2,rfl,I2.kept (t':=s2.toks) hk,agH a (s2.heap.objs.size+1) s2.heap.objs.size,Zsm,λb hb=>?_,q⟩;have hle:s2.heap.objs.size<=b:=by
   rcases aJ.mp hb with z|z
   ·rw[z];exact Nat.le_succ _
   ·rw[bo.mp z];exact ZA
  exact I2.qg hle (I2.aC.fresh hle)
section
variable {K:PySem.W.Frag}{a:Addr}{g:TG}{tb:TS}{D:Ends}{σ:L2.St}{H:Hp}
theorem aow(xs:Ze)(Pv:Zag)(h0:ZaM)(hl:ZlE)
  (hs:∀(i:Nat) x T σ H,xs[i]? =some x->X9->H T=none->Zjo (ZH T Ze1) fun σ2 H2=>tb {D with nx:=Pv (i+1),ct:=Pv (i+1),bk:=D.nx} σ2 H2) (hd:Zcy):qw (Pl K a) g tb D σ H:=by
 refine Zg9
 ·ext ac
 ·ext b8
end
end
section
def Pg(K:PySem.W.Frag)(a b c:Addr):It:=
 ⟨λi H=>∃(xs ys us:Ze) (x y u:V),YJ/\ZdU/\XD c us/\xs[i]? =some x/\ys[i]? =some y/\us[i]? =some u,
  λi H v H'=>∃T x y u,v=.ref T/\H T=none/\H'=ZH T Zfr/\(∀xs,YJ->xs[i]? =some x)/\(∀ys,ZdU->ys[i]? =some y)/\∀us,XD c us->us[i]? =some u,
  λi H=>∃xs:List V,ag K H a xs/\xs.length<=i⟩
theorem agA{P:Program}{w:World}{K:PySem.W.Frag}{elts:Ya}{kk:Nat}{fQ:Pos}{a b c z TI TO i1 i2 i3:Addr}(D:zA z TI TO i1 i2 i3 a b c):
  Turn P w K VC ZpE [z,TI,TO,i1,i2,i3] z (λi h=>IsZip h z TI TO .none /\iu h TI Zkg Zkh (.ref i3)/\(∃x y u,iu h TO x y u)/\h.IsListIter i1 a i/\h.IsListIter i2 b i/\h.IsListIter i3 c i) where
 mem:=by simp
 obj:=λi h st d hd=>by
  obtain⟨hz,dY,⟨x,y,u,fJ⟩,⟨o1,e1,_,d1⟩,⟨o2,e2,_,d2⟩,⟨o3,e3,_,d3⟩⟩:=st;have e':d=z∨d=TI∨d=TO∨d=i1∨d=i2∨d=i3:=by simpa using hd
  rcases e' with q|q|q|q|q|q<;>rw[q]
  ·exact Zwh
  ·exact Zwf
  ·exact Zwg
  ·exact Zs9
  ·exact Zta
  ·exact⟨o3,e3,λv q=>by rw[d3]at q;cases q⟩
 keep:=λi h h' st k=>by obtain⟨hz,dY,⟨x,y,u,fJ⟩,h1,h2,h3⟩:=st;exact⟨k z Zh _ hz,k TI Zh _ dY,⟨x,y,u,k TO Zh _ fJ⟩,h1.at λo q=>k i1 Zh o q,h2.at λo q=>k i2 Zh o q,h3.at λo q=>k i3 Zh o q⟩
 item:=by
  ext K;obtain⟨hz,dY,⟨x0,y0,u0,fJ⟩,h1,h2,h3⟩:=st;obtain⟨xs,ys,us,x,y,u,iH,m_,EY,hx,hy,hu⟩:=hg;ext aW;obtain⟨alS,Tz,p3,_⟩:=I.list EY;obtain⟨v1,e1,r1⟩:=ZgK;obtain⟨v2,e2,r2⟩:=uj.get hy;obtain⟨v3,e3,r3⟩:=Tz.get hu;have cE:z<s.heap.objs.size:=bT hz;refine akI D hz dY fJ h1 h2 h3 p.isList p2.isList p3.isList (x:=v1) (y:=v2) (u:=v3) (by simpa using e1) (by simpa using e2) (by simpa using e3) λh' z' Ow j1 j2 j3 hT hsz hk=>?_;refine ZrM;have kb:=dy.one sb;have one:∀{a b:Addr},a≠b->a∉[b]:=λh q=>h Zkq;have vp:jH.get? s.heap.objs.size=some {cls:=Xy,data:=.seq #[v1,v2,v3]}:=kb _ _ Zpu hT;have new:WM (Wl Zfr) jH s.heap.objs.size Zfr:=⟨by show 3<=sizeLine;decide,[v1,v2,v3],.cons r1 (.cons r2 (.cons r3 .nil)),Zii⟩;have I1:ZQ (Wl Zfr) {s with heap:=jH}:=
   I.CJ (t':=s.toks) (ch:=[z,TI,TO,i1,i2,i3]) (λd o hb q=>kb d o (λq'=>hb (by rw[bo.mp q'];simp)) Zq5) hf ZA new
  refine⟨Yn,_,I1,rfl,⟨_,x,y,u,rfl,X4,rfl,λl hl=>ZvL,λl hl=>ZvM,λl hl=>by rw[I.rM hl EY];exact hu⟩,⟨Ht,?_,⟨v1,v2,v3,kb _ _ ZoC Ow⟩,kb.iter ZiV j1,kb.iter ZoD j2,kb.iter ZoE j3⟩,λd vk=>?_⟩
  ·refine kb _ _ (one D.PL.symm) (hk _ _ (λq=>?_) dY);simp only[aJ,mw,lU]at q;rcases q with q|q|q|q|q
   ·exact D.PL q.symm
   ·exact D.TITO q
   ·exact D.TI1 q
   ·exact D.TI2 q
   ·exact D.TI3 q
  ·have bG:d<s.heap.objs.size:=by
    have e':d=z∨d=TI∨d=TO∨d=i1∨d=i2∨d=i3:=by simpa using vk
    rcases e' with q|q|q|q|q|q<;>rw[q]
    ·exact cE
    ·exact bT dY
    ·exact bT fJ
    ·obtain⟨_,e1,_⟩:=h1;exact bT e1
    ·obtain⟨_,e2,_⟩:=h2;exact bT e2
    ·obtain⟨_,e3,_⟩:=h3;exact bT e3
   rw[ax (eB bG)];exact(hf d vk).1
 done:=by intro X hP hw hK hc i pins s σ H E I hf st hg;subst hP hw hK;obtain⟨hz,dY,⟨x0,y0,u0,fJ⟩,h1,h2,h3⟩:=st;obtain⟨xs,iH,acP⟩:=hg;obtain⟨its,rv,p,_⟩:=I.list iH;have l1:=rv.length;refine akH (a:=x0) (b:=y0) (c:=u0) YV D hz dY h1 p.isList (by simp;omega) λh' hk=>⟨rfl,I.Qa (t':=s.toks) (ch:=[z,TI,TO,i1,i2,i3]) (λd o hb q=>Zq5) hf⟩
 self:=λA i s Q E st h=>Hz st.1 h
def AK(K:PySem.W.Frag)(ta:TA):TI:=fun σ H R=>Xb H λvs H1=>∃a b c xs ys us,vs=[.ref a,.ref b,.ref c]/\UA/\ag K H1 b ys/\ag K H1 c us/\R ZpE H1
theorem ar0(I l1 l2 l3:Nat)(h1:l1<I)(h2:l2<I)(h3:l3<I):zA (I+5) (I+3) (I+4) I (I+1) (I+2) l1 l2 l3:=by
 have off:∀l:Nat,l<I->l∉[I+5,I+4,I,I+1,I+2]:=λl h q=>by simp only[aJ,mw,lU]at q;omega
 have ne:∀a b:Nat,a≠b->(I+a:Nat)≠I+b:=λa b h q=>h (Nat.add_left_cancel q);exact⟨ne 5 3 Zk,ne 5 4 Zk,ne 5 0 Zk,ne 5 1 Zk,ne 5 2 Zk,ne 3 4 Zk,ne 3 0 Zk,ne 3 1 Zk,ne 3 2 Zk,ne 4 0 Zk,ne 4 1 Zk,ne 4 2 Zk,ne 0 1 Zk,ne 0 2 Zk,ne 1 2 Zk,off _ h1,off _ h2,off _ h3⟩
theorem aif{X:Cx}{e e2 e3:Expr}{ta:TA}{p pos fQ:Pos}{elts:Ya}{kk:Nat}(K:PySem.W.Frag)(hg:Gl X "zip")(hm:ZoV)(ha:PA X [e,e2,e3] ta)(hK:X.K=K:=by rfl)
  (hs:starEach [e,e2,e3] X.env=(false,Yv)::starEach [e2,e3] X.env:=by rfl) (cC:(Xa (starEach [e2,e3] X.env)).any Zg=false:=by rfl):
  PI X VC (.Call (.Name "zip" p) [e,e2,e3] [] pos) (AK K ta):=by
 subst hK;ext w;refine Zvn;obtain⟨a,b,c,xs,ys,us',ex,iH,m_,EY,q⟩:=q1;subst ex;cases r1 with
 |cons r rr=>
  cases rr with
  |cons r' rr=>
   cases rr with
   |cons r'' rr=>
    cases rr
    cases r
    cases r'
    cases r''
    ext cg;obtain⟨alS,Tz,p3,_⟩:=I1.list EY;refine aq7 p1.isList p2.isList p3.isList λh' hz dY fJ h1 h2 h3 hsz hk=>Hz hz ?_;have I2:ZQ H1 {s1 with heap:=h'}:=Zmt;refine⟨s1.heap.objs.size+5,[s1.heap.objs.size+5,s1.heap.objs.size+3,s1.heap.objs.size+4,s1.heap.objs.size,s1.heap.objs.size+1,s1.heap.objs.size+2],_,_,H1,rfl,I2,agA (ar0 s1.heap.objs.size a b c p1.lt p2.lt p3.lt),⟨hz,dY,⟨_,_,_,fJ⟩,h1,h2,h3⟩,λd vk=>?_,q⟩;have hle:s1.heap.objs.size<=d:=by
     have e':d=s1.heap.objs.size+5∨d=s1.heap.objs.size+3∨d=s1.heap.objs.size+4∨d=s1.heap.objs.size∨d=s1.heap.objs.size+1∨d=s1.heap.objs.size+2:=by simpa using vk
     rcases e' with z|z|z|z|z|z<;>rw[z]<;>first |exact aU _|exact zi _ _
    exact Zl6
section
variable {K:PySem.W.Frag}{a:Addr}{g:TG}{tb:TS}{D:Ends}{σ:L2.St}{H:Hp}
theorem aou{b c:Addr}(xs ys us:Ze)(he:xs.length=ys.length)(he2:xs.length=us.length)(Pv:Zag)(h0:ZaM)(hl:∀i σ H,i<=xs.length->X9->YJ/\ZdU/\XD c us)
  (hs:∀(i:Nat) x y u T σ H,xs[i]? =some x->ys[i]? =some y->us[i]? =some u->X9->H T=none->Zjo (ZH T Zfr) fun σ2 H2=>tb {D with nx:=Pv (i+1),ct:=Pv (i+1),bk:=D.nx} σ2 H2) (hd:Zcy):qw ZpE g tb D σ H:=by
 refine Zsk (fun σ H p=>⟨xs,(ZfI p).1,ZA⟩) ZhL hd
 ·ext cm;obtain⟨u,eu⟩:=fM (l:=us) (i:=i) Zb;obtain⟨q1,q2,q3⟩:=Zbl p;exact⟨xs,ys,us,x,y,u,q1,q2,q3,ex,ey,eu⟩
 ·obtain⟨T,x,y,u,e,hT,e2,y1,y2,y3⟩:=y;subst e e2;obtain⟨q1,q2,q3⟩:=Zbl p;exact hs i x y u T σ H (y1 xs q1) (y2 ys q2) (y3 us q3) p hT
end
end
local macro_rules | `(tactic| simp! [$xs,*]) => `(tactic| simp only [nR, tN, pf, mL, kR, ux, qX, tP, qM, tU, kS, tM, mN, kK, mM, tD, tG, wN, tC, tB, tX, tJ, tK, tW, tI, wO, tO, qI, tT, qL, qJ, qZ, qY, uu, rg, rh, jk, rI, uA, uf, tQ, mQ, uq, uv, tV, vA, uw, uz, ur, nS, pj, qH, tF, qW, tH, tL, wQ, wU, rV, rT, rW, AL, u4, rS, AK, uZ, tu, qN, rR, tw, rU, tE, qV, tS, tR, wV, nT, ph, qK, vC, vB, Nat.succ_eq_add_one, sG, uc, w9, w_, w8, V.str.injEq, ua, uH, lY, xO, yM, fold_succ, List.set_cons_zero, List.set_cons_succ, List.getElem?_cons_zero, List.getElem?_cons_succ, Option.some.injEq, exists_eq_left', exists_eq_left, exists_and_left, and_assoc, true_and, and_true, V.bl.injEq, HO.lst.injEq, HO.ins.injEq, HO.tup.injEq, V.ref.injEq, V.int.injEq, decide_true, decide_false, if_true, if_false, List.cons.injEq, Bool.false_eq_true, au, jh, exists_const, exists_eq', exists_eq, and_self, List.append_nil, List.nil_append, List.cons_append, List.append_assoc, L2.start, List.map_cons, List.map_nil, List.length_cons, List.length_nil, Nat.zero_add, Nat.reduceAdd, Nat.reduceSub, List.replicate_succ, List.replicate_zero, wipe, $xs,*])
section
open Vbwbal (text decimal roleAt stepAt MOST)
abbrev asD:Zc:=["plan","answer","name","roles","most"]
theorem RY:aV asD Gq (aA Jf):=Zl
def ln(b:Za):Za:=b.length::b
def uI(P:Plan):Za:=P.roles.length::(P.roles.flatMap ln++(P.persons.length::(P.persons.flatMap (λx=>ln x.name++(ln x.roles++[x.most]))++(P.steps.length::P.steps.flatMap λx=>ln x.name++ln x.roles))))
def QQ(A:Ad):Sp:=λvs H Q _=>∃(p:Addr) (i:aW) (P:Plan),vs=[.ref p]/\Y4/\ZF/\∀(H':Hp) (l:Addr),Zd->H l=none->H' l=some (.lst (nats (uI P)))->(uI P).length <=2000->ZY H'
theorem o7{H:Hp}{a:Addr}{b:Za}{Q:VK}{E:XK}(ha:H a=some (.lst (nats b)))(hl:b.length<=2000000)(k:∀H' l,Zd->H l=none->H' l=some (.lst (nats (ln b)))->ZY H'):kT [.ref a] H Q E:=
 ⟨a,nats b,rfl,ha,by rw[bA];exact hl,λH' l s h0 h=>k H' l s h0 (by rw[h,bA];rfl)⟩
theorem HS{H:Hp}{n:Bytes}{Q:VK}{E E':XK}(hn:n.length<=100000)(k:∀H' l,Zd->H l=none->H' l=some (.lst (nats (ln n)))->ZY H'):C8 [aE n] H (λy H1=>kT [y] H1 Q E) E':=
 ⟨n,rfl,hn,λH1 l1 s1 h1 e1=>o7 e1 Zb λH2 l2 s2 h2 e2=>k H2 l2 XJ (s1.free h2) e2⟩
theorem ap6{H H0:Hp}{l x:Addr}{a b:Za}(s:Z8 H0)(hl:H l=none)(h0:H0 l=some (.lst (nats a))):Z8 ZtR/\ZtR l=some (.lst (nats Zek)):=
 ⟨bV s hl (gf h0),by rw[au,lj]⟩
theorem Nq{α:Type}{f:α->Za}{n:Nat}:∀{l:ZN},(∀x∈l,(f x).length <=n)->(l.flatMap f).length <=n*l.length
 |[],_=>ZI
 |a::r,h=>by have h1:=h a aY;have h2:=Nq (l:=r) λx hx=>h x ZaS;rw[iR,bS,bb,Nat.mul_succ];omega
theorem FK{α:Type}{f:α->Za}{l:ZN}{i:Nat}{x:α}(h:ZpU):(l.take XG).flatMap f=(l.take i).flatMap f++f x:=by rw[dA h,oT];simp
theorem FL{α:Type}{f:α->Za}{n:Nat}{l:ZN}(m:Nat)(h:∀x∈l,(f x).length <=n):((l.take m).flatMap f).length <=n*l.length:=
 cq (Nq λx hx=>h x (Cm hx)) (Nat.mul_le_mul_left n (by rw[eY];exact Nat.min_le_right _ _))
section
variable {P:Program}{w:World}{K:PySem.W.Frag}{mg:Zx}{base:Heap}{A:Ad}
theorem ajh{f:Addr}{fd:FuncData}(T:Zm)(sF:Zxh)(dZ:Ui)
  (F:Zo "shown_names" "shown_names" Jf f fd):X8 Gq (QQ A):=by
 have nd:=RY.nd;refine F.ok RY Zj Zn
 ·ext av
 ·ext as;ext c;have n1:=Zbr;have n2:=Zbm;have n3:=ZhY;have n4:=ZiN;have n5:=Uo;have n6:=Zia;have h8:=wf.roles;have h7:=wf.persons;have h7s:=wf.steps;obtain⟨fr,jC⟩:∃fr:Bytes->Za,fr=ln:=Zs;obtain⟨fp,oE⟩:∃fp:Vbwbal.Person->Za,fp=λx=>ln x.name++(ln x.roles++[x.most]):=Zs;obtain⟨fs,sm⟩:∃fs:Vbwbal.Step->Za,fs=λx=>ln x.name++ln x.roles:=Zs;have lr:∀x∈P.roles,(fr x).length <=13:=λx hx=>by have:=wf.uk x hx;rw[jC];unfold ln;rw[bb];omega
  have lp:∀x∈P.persons,(fp x).length <=23:=λx hx=>by have:=wf.pF x hx;have:=wf.mT x hx;rw[oE];unfold ln;simp only[bS,bb,jM];omega
  have ls:∀x∈P.steps,(fs x).length <=22:=λx hx=>by have:=wf.tZ x hx;have:=wf.qQ x hx;rw[sm];unfold ln;simp only[bS,bb,jM];omega
  have lrt:=λm=>FL m lr;have lpt:=λm=>FL m lp;have lst:=λm=>FL m ls;refine⟨_,(ao (UQ (bh (aa Zkm ai)))
   (ao (dN dF rfl (ZS Ym) VQ (ak (dU (Up ZC (aa Zq3 ai)))))
   (ao ZtL
   (ao (dN dF rfl (aif K rfl T.uJ (Vp Zgz)) (i4 3 K rfl (dn VQ (dn VJ ZqA))) (ak (dU (Up ZC (aa (cR lg ZsL (bh ZaD)) ai)))))
   (ao ZtL
   (ao (dN dF rfl (Aj K rfl T.uJ Zgz) Zev (ak (dU (Up ZC (aa ZsL ai)))))
   (ak (ay (pv 1))))))))),?_⟩
  simp! [hP.ins,T.bU,n1,n0];refine⟨_,.inl ⟨_,ZoX,(aq _).symm⟩,X5,λl hl=>?_⟩;have s1:Z8 (WE (.lst [nat P.roles.length])):=a0 hl;have fj:=ZbP;ext bA;obtain⟨Pv,aB⟩:∃Pv:Nat->L2.St->Hp->Prop,∀m σ H',YG H'↔∃(v2 v3 v4:ZM),σ=[some Z6,some Z5,v2,v3,v4]/\Zd/\H' l=some (.lst (nats (P.roles.length::(P.roles.take m).flatMap fr))):=Ye;refine⟨⟨_,ag.of fj.roles⟩,gH (P.roles.map aE) Pv ((Zi _).mpr ⟨none,none,none,rfl,s1,by rw[au];simp[nats]⟩) (λi σ H' _ hv=>let⟨_,_,_,_,s2,_⟩:=(Zi _).mp hv;ag.of (hP.same s2).roles) ?_ ?_⟩
  ·intro m x σ H2 hx hv;ext cZ;obtain⟨n,hn,rfl⟩:=UG;have hnm:=wf.uk n (bI hn);have Fc:=lrt m;simp! [cQ bH];refine HS Zb λH3 l3 s3 yc b0=>⟨l3,rfl,_,Zke,_,b0,?_,?_⟩
   ·ext bi
   ·obtain⟨q1,q2⟩:=ap6 (x:=l3) (b:=ln n) ZfU hl Zke;refine(Zi _).mpr ⟨_,_,_,rfl,q1,?_⟩;rw[q2,FK hn,jC];rfl
  ·intro σ H2 hv;ext cZ;rw[aq,eg]at bH;have gX:=Zgp;have hlr:=lrt P.roles.length;rw[eg]at hlr;simp! [cQ bH,gX.ins,T.bU,n2,k_];refine⟨_,Zsy,_,bH,by rw[bA,bb];omega,?_⟩;obtain⟨pre,jx⟩:∃pre,pre=P.roles.length::P.roles.flatMap fr:=Zs;have auS:pre.length<=200:=by rw[jx,bb];omega
   rw[←jx]at bH⊢;have s3:Z8 (YM l (.lst (nats pre++[nat P.persons.length]))):=bV s2 hl (gf bH);have Bk:=hP.same s3;obtain⟨rs,gS,gR⟩:=id hP.pr;simp! [Bk.ins,T.bU,n2,n3,n4,k_,DY,Af];refine⟨_,ag.of Bk.persons,_,ag.of (s3.at gS),_,ag.of Bk.eF,?_⟩;obtain⟨Pw,cj⟩:∃Pw:Nat->L2.St->Hp->Prop,∀m σ H',Pw m σ H'↔∃(v2 v3 v4:ZM),σ=[some Z6,some Z5,v2,v3,v4]/\Zd/\H' l=some (.lst (nats (pre++P.persons.length::(P.persons.take m).flatMap fp))):=Ye;refine aou Zhy W8 ZlJ Zmx (by rw[aq,aq]) Pw ((Yk _).mpr ⟨v2,v3,v4,rfl,s3,ZwS⟩) (λi σ H' _ hv=>let⟨_,_,_,_,s4,_⟩:=(Yk _).mp hv;⟨ag.of (hP.same s4).persons,ag.of (s4.at gS),ag.of (hP.same s4).eF⟩) ?_ ?_
   ·intro m x y u Tp σ H4 hx hy hu hv hTp;ext c2;obtain⟨pe,da,rfl⟩:=UG;obtain⟨ra,iF,rfl⟩:=Wo;obtain⟨pe',AZ,rfl⟩:=get_map hu;rw[da]at AZ;cases AZ
    obtain⟨rl,fG,eS⟩:=gN gR iF;rw[cx,da]at fG;cases fG
    have eS:H ra=some (.lst (nats pe.roles)):=eS;have jy:=bI da;have e1:=wf.pF pe jy;have e2:=wf.mT pe jy;have Fc:=lpt m;have s5:ah H4 (U6 Tp (.tup [aE pe.name,.ref ra,nat pe.most])):=Za5;have jj:=ZaA;ext r;simp! [cQ (s5.at ik)];refine HS Zb λH6 l6 s6 au5 fY=>o7 (s6.at (jj.at eS)) Zb λH7 l7 s7 acF pX=>⟨l6,rfl,l7,rfl,_,s7.at fY,_,pX,?_,λl8 lA=>⟨X5,λl9 A8=>?_⟩⟩
    ·ext bi
    ·have s8:ah H7 Zrz:=a0 lA;have s9:ah H7 (upd Zrz l9 (.lst [nat pe.most])):=bV s8 (s8.free A8);have am8:l8≠l9:=λe=>by rw[←e,au]at A8;cases A8
     refine⟨_,by rw[ax am8];exact au,?_,λl10 yd=>?_⟩
     ·ext a7
     ·have ui:=bV (o:=.lst ((nats (ln pe.name)++nats (ln pe.roles))++[nat pe.most])) s9 (s9.free yd);have sA:=((s5.trans s6).trans s7).trans ui;have A7:=sA.at ik;refine⟨_,A7,?_,?_⟩
      ·ext a7
      ·refine(Yk _).mpr ⟨_,_,_,rfl,bV (s4.trans sA) hl (gf A7),?_⟩;rw[au,FK da,oE];simp only[lj,KG,KD,eC,oV]
   ·intro σ H4 hv;ext c2;rw[aq,eg]at ik;have yo:=hP.same s4;have nj:=lpt P.persons.length;rw[eg]at nj;simp! [cQ ik,yo.ins,T.bU,n5,k0];obtain⟨mid,LL⟩:∃mid,mid=pre++P.persons.length::P.persons.flatMap fp:=Zs;have auX:mid.length<=500:=by rw[LL,bS,bb];omega
    rw[←LL]at ik;refine⟨_,.inl ⟨_,Zpl,(aq _).symm⟩,_,ik,by rw[bA];omega,?_⟩;have s5:Z8 (U6 l (.lst (nats mid++[nat P.steps.length]))):=bV s4 hl (gf ik);have hP5:=hP.same s5;obtain⟨rt,AU,AS⟩:=id hP.sr;simp! [hP5.ins,T.bU,n5,n6,k0,DX];refine⟨_,ag.of hP5.steps,_,ag.of (s5.at AU),?_⟩;obtain⟨Px,Bi⟩:∃Px:Nat->L2.St->Hp->Prop,∀m σ H',Px m σ H'↔∃(v2 v3 v4:ZM),σ=[some Z6,some Z5,v2,v3,v4]/\Zd/\H' l=some (.lst (nats (mid++P.steps.length::(P.steps.take m).flatMap fs))):=Ye;refine Bu ZlY (rt.map V.ref) (by rw[aq,aq,du AS,aq]) Px ((Bi _ _ _).mpr ⟨v2,v3,v4,rfl,s5,ZwS⟩) (λi σ H' _ hv=>let⟨_,_,_,_,s6,_⟩:=(Bi _ _ _).mp hv;⟨ag.of (hP.same s6).steps,ag.of (s6.at AU)⟩) ?_ ?_
    ·intro m x y Tp σ H6 hx hy hv hTp;ext cP;obtain⟨st,aT,rfl⟩:=UG;obtain⟨ra,iF,rfl⟩:=Wo;obtain⟨rl,fG,eS⟩:=gN AS iF;rw[cx,aT]at fG;cases fG
     have eS:H ra=some (.lst (nats st.roles)):=eS;have jy:=bI aT;have e1:=wf.tZ st jy;have e2:=wf.qQ st jy;have Fc:=lst m;have s7:ah H6 (upd H6 Tp (.tup [aE st.name,.ref ra])):=Za5;have s67:=Zjz;ext r;simp! [cQ (s7.at fY)];refine HS Zb λH8 l8 s8 acE lA=>o7 (s8.at (s67.at eS)) Zb λH9 l9 s9 au4 A8=>⟨l8,rfl,l9,rfl,_,s9.at lA,_,A8,?_,λl10 yd=>?_⟩
     ·ext bi
     ·have ui:ah H9 (upd H9 l10 (.lst (nats (ln st.name)++nats (ln st.roles)))):=a0 yd;have sA:=((s7.trans s8).trans s9).trans ui;have A7:=sA.at fY;refine⟨_,A7,?_,?_⟩
      ·ext a7
      ·refine(Bi _ _ _).mpr ⟨_,_,_,rfl,bV (s6.trans sA) hl (gf A7),?_⟩;rw[au,FK aT,sm];simp only[lj,KG,KD,eC,oV]
    ·intro σ H6 hv;ext cP;rw[aq,eg]at fY;have hls:=lst P.steps.length;rw[eg]at hls;have eN:uI P=mid++P.steps.length::P.steps.flatMap fs:=by rw[LL,jx,jC,oE,sm];unfold uI;simp only[eC,oV]
     ext a;refine k H6 l s6 hl (by rw[fY,eN]) ?_;rw[eN,bS,bb];omega
end
end
section
open Vbwbal (signer load goesWith fits unsigned subsets countWays)
abbrev ae6:Zc:=["record","options","word","pair"]
theorem Sj:aV ae6 Gz (aA Ds):=Zl
abbrev G6:Zc:=["record","options","person","share","step","first","second"]
theorem SV:aV G6 GP (aA xa):=Zl
abbrev afj:Zc:=["steps","step"]
theorem S3:aV afj GU (aA DF):=Zl
abbrev asQ:Zc:=["counts","shares","found","given","share"]
theorem Sm:aV asQ GB (aA Js):=Zl
abbrev afe:Zc:=["record","options","choices","counts","person","shares","share"]
theorem SO:aV afe GL (aA DB):=Zl
section
variable {X:Cx}
theorem aqt(K:PySem.W.Frag)(hc:Xz)(hK:X.K=K:=by rfl):YR ZiG (qV K):=by subst hK;exact aqu hc
theorem aiz{pos:Pos}{k1 v1:Expr}{a1 b1:TE}(h1:Zu k1 a1)(g1:Zu v1 b1):Zu (.Dict [some k1] [v1] pos) (nT [(a1,b1)]):=
 aau (DW h1 g1 aaa) rfl rfl (afL _ _) (by show(1 :Nat)<=15;decide)
end
theorem arG(a b:Nat):Builtin.bitAnd (a:Int) (b:Int)=((a&&& b:Nat):Int):=by unfold Builtin.bitAnd;rw[bu (Pn a),bu (Pn b)];rfl
theorem arx(a b:Nat):Builtin.bitOr (a:Int) (b:Int)=((a|||b:Nat):Int):=by unfold Builtin.bitOr Builtin.bitAnd Builtin.bitNot;rw[aX (show¬(0 :Int)<= -(a:Int)-1 by omega),aX (show¬(0 :Int)<= -(b:Int)-1 by omega)];show -(-(((-(-(a:Int)-1)-1).toNat |||(-(-(b:Int)-1)-1).toNat :Nat):Int)-1)-1=_;rw[show -(-(a:Int)-1)-1=(a:Int) by omega,show -(-(b:Int)-1)-1=(b:Int) by omega,mE,mE];omega
def cntK(k:dz):Yb:=k.map λz=>(Sum.inl (z.1:Int),nat z.2)
theorem FV:∀{k:dz} {m:Nat},m∉k.map Zg->eO ZgT ZnL=none/\dH k m=0
 |[],m,_=>Uy
 |z::r,m,h=>by
  have h1:¬z.1=m:=λe=>h (by rw[cw,e];exact aY);obtain⟨q1,q2⟩:=FV (k:=r) (m:=m) λq=>h Zd6;have h2:¬(Sum.inl (z.1:Int):Key)=Sum.inl (m:Int):=λe=>h1 (mF (oQ e));refine Zgs
  ·show ZsM _=none;rw[tp h2];exact q1
  ·show(if z.1=m then z.2 else 0)+dH r m=0;rw[ae h1,q2]
theorem FU:∀{k:dz} {g:Xr},(k.map Zg).Nodup ->g∈k->eO ZgT (Sum.inl (g.1:Int))=some (nat g.2)/\dH k g.1=g.2
 |z::r,g,hn,h=>by
  obtain⟨n1,n2⟩:=Zb7;rcases aJ.mp h with e|h
  ·subst e;refine Zgs
   ·show eO ((Sum.inl (g.1:Int),nat g.2)::cntK r) _=_;rw[zE rfl]
   ·show(if g.1=g.1 then g.2 else 0)+dH r g.1=g.2;rw[af rfl,(FV n1).2];rfl
  ·have h1:¬z.1=g.1:=λe=>n1 (by show z.1∈_;rw[e];exact aN.mpr ⟨g,h,rfl⟩);have h2:¬(Sum.inl (z.1:Int):Key)=Sum.inl (g.1:Int):=λe=>h1 (mF (oQ e));obtain⟨q1,q2⟩:=FU n2 h;refine Zgs
   ·show ZsM _=_;rw[tp h2];exact q1
   ·show(if z.1=g.1 then z.2 else 0)+dH r g.1=g.2;rw[ae h1,q2,Cd]
theorem ad6{k:dz}(hn:(k.map Zg).Nodup)(m:Nat):(eO ZgT ZnL).getD (nat 0)=nat (dH k m):=by
 by_cases h:m∈k.map Zg
 ·obtain⟨g,hg,e⟩:=UN;obtain⟨q1,q2⟩:=FU hn hg;have e:g.1=m:=e;rw[←e,q1,q2];rfl
 ·obtain⟨q1,q2⟩:=FV h;rw[q1,q2];rfl
theorem aey{z:Xr}{r:dz}{m n:Nat}(h:¬z.1=m):jJ Zep m n=z::jJ r m n:=ae h
theorem aqI{k:dz}(hn:(k.map Zg).Nodup)(m n:Nat):putK ZgT ZnL (nat (dH k m+n))=cntK (jJ k m n):=by
 have acW:((cntK k).any λkv=>decide (kv.1=Sum.inl (m:Int)))=true↔m∈k.map Zg:=by
  rw[afN];ext b
  ·rintro⟨kv,h1,h2⟩;obtain⟨z,hz,rfl⟩:=aN.mp h1;exact aN.mpr ⟨z,hz,mF (oQ (lW h2))⟩
  ·intro h;obtain⟨z,hz,e⟩:=UN;exact⟨_,Zbh,bu (by rw[←e])⟩
 unfold putK;by_cases h:m∈k.map Zg
 ·rw[af (acW.mpr h)];have key:∀(r:dz) (v:Nat),(r.map Zg).Nodup ->m∈r.map Zg->v=dH r m+n->(cntK r).map ZrH=cntK Zj3:=by
   intro r
   induction r with
   |nil=>intro v _ hm;cases hm
   |cons z r ih=>
    intro v hr hm hv;obtain⟨n1,n2⟩:=df.mp hr;have hk:(cntK Zep)=(Sum.inl (z.1:Int),nat z.2)::cntK r:=rfl;rw[hk,cw];by_cases e:z.1=m
    ·have e2:(Sum.inl (z.1:Int):Key)=Sum.inl (m:Int):=by rw[e]
     have hz:dH Zep m=z.2:=by have:=(FU hr (g:=z) aY).2;rw[e]at this;exact this
     have kx:(cntK r).map ZrH=cntK r:=by
      refine(gv λkv eU=>?_).trans (G_ _);obtain⟨y,hy,rfl⟩:=aN.mp eU;rw[ae λq=>n1 (by have:y.1=m:=Zj5;show z.1∈_;rw[e,←this];exact ZxN)]
      rfl
     rw[af e2,kx];unfold jJ;rw[af e,hv,hz,e];rfl
    ·have e2:¬(Sum.inl (z.1:Int):Key)=Sum.inl (m:Int):=λq=>e Zj5;have kG:m∈r.map Zg:=(aJ.mp hm).resolve_left λq=>UC;have hz:dH Zep m=dH r m:=by show(if z.1=m then z.2 else 0)+dH r m=_;rw[ae e,Cd]
     rw[ae e2,ih v n2 kG (by rw[hv,hz]),aey e];rfl
  exact key k _ hn h rfl
 ·rw[ae λq=>h (acW.mp q),(FV h).2,Cd];have key:∀r:dz,m∉r.map Zg->cntK r++[(Sum.inl (m:Int),nat n)]=cntK Zj3:=by
   intro r
   induction r with
   |nil=>intro _;rfl
   |cons z r ih=>
    intro hm;have e:¬z.1=m:=λq=>hm (by rw[cw,q];exact aY);rw[aey e];show _::(cntK r++_)=_::cntK Zj3;rw[ih λq=>hm Zd6]
  exact key k h
structure jO(k:dz):Prop where
 nd:(k.map Zg).Nodup
 lt:∀z∈k.map Zg,z<128
theorem jO.len{k:dz}(h:jO k):k.length<=128:=by have:=oh 128 _ h.nd h.lt;rw[aq]at this;exact this
theorem aqK{k:dz}(h:jO k){m n:Nat}(hm:m<128):jO (jJ k m n):=by
 refine⟨?_,?_⟩<;>rw[aez]
 ·by_cases q:m∈k.map Zg
  ·rw[af q];exact h.nd
  ·rw[ae q];exact Eo h.nd q
 ·intro z hz;by_cases q:m∈k.map Zg
  ·rw[af q]at hz;exact h.lt z hz
  ·rw[ae q]at hz;rcases b8.mp hz with y|y
   ·exact h.lt z y
   ·rw[bo.mp y];exact hm
theorem aqH{f:dz}(h:jO f){g:Xr}{s:Nat}(hg:g.1<128)(hs:s<128):jO (jg f g s):=by
 unfold jg;split
 ·exact aqK h (ary hg hs)
 ·exact h
theorem NY{g:Xr}(hg:g.1<128):∀(ss:Za) (f:dz),jO f->(∀s∈ss,s<128)->jO Zo6
 |[],f,h,_=>h
 |s::r,f,h,hs=>NY hg r _ (aqH h hg (hs s aY)) λt ht=>hs t ZkS
theorem NZ(ss:Za)(hs:∀s∈ss,s<128):∀(k f:dz),jO f->(∀z∈k.map Zg,z<128)->jO (k.foldl (λf g=>Zo6) f)
 |[],f,h,_=>h
 |g::r,f,h,hk=>NZ ss hs r _ (NY (hk g.1 aY) ss f h hs) λz hz=>hk z ZgS
theorem aqJ{k:dz}{ss:Za}(h:jO k)(hs:∀s∈ss,s<128):jO (xy k ss):=NZ ss hs k [] ZyO h.lt
def Q3(A:Ad):Sp:=λvs H Q _=>∃(r d:Addr) (i:bC) (j:aW) (P:Plan) (ab:Za) (c:Choice) (o:cz) (word:Str) (a:Addr) (ps:ZV),vs=[.ref r,.ref d,.str word]/\YI/\Za0/\(keys o).Nodup /\
 bZ H j.d (.str word) Zgr/\U3 ps/\ps.length<=12/\∀(H':Hp) (l:Addr),Zd->H l=none->g8 H' l (jV ps XU)->ZY H'
def Rk(A:Ad):Sp:=λvs H Q _=>∃(r d a:Addr) (i:bC) (j:aW) (P:Plan) (ab:Za) (c:Choice) (x:Nat) (sh:Za),vs=[.ref r,.ref d,nat x,.ref a]/\YI/\ZF/\Xj/\fO H d XM/\x<P.persons.length/\
 H a=some (.lst (nats sh))/\(∀s∈sh,s∈Z9 c)/\sh.length<=7/\∀(H':Hp),Zd->Q (.bl (UK x sh)) H'
def Ro:Sp:=λvs H Q _=>∃(a:Addr) (ss:Za),vs=[.ref a]/\H a=some Zao/\ss.Nodup/\(∀s∈ss,s<7)/\∀(H':Hp),Zd->Q (nat (bits ss)) H'
def Q5:Sp:=λvs H Q _=>∃(d l:Addr) (k:dz) (ss:Za),vs=[.ref d,.ref l]/\H d=some (.dK ZgT)/\jO k/\H l=some Zao/\(∀s∈ss,s<128)/\
 ∀(H':Hp) (d':Addr),Zd->H d'=none->H' d'=some (.dK (cntK (xy k ss)))->ZjV H'
def Rh(A:Ad):Sp:=λvs H Q _=>∃(r:Addr) (i:bC) (j:aW) (P:Plan) (ab:Za) (c:Choice),vs=[.ref r]/\YI/\ZF/\Xj/\∀(H':Hp),Zd->Q (nat (Zc7 Z7 c)) H'
theorem adL{H:Hp}{kvs:Yb}{o:cz}(h:Zan o)(hn:Zfu)(s:Nat):(W4 Zh2).isSome =(keys o).contains s:=by
 by_cases hs:s∈keys o
 ·obtain⟨p,hp,e⟩:=aN.mp hs;have e:p.1=s:=e;obtain⟨r,e1,_⟩:=rC h hn (show(s,p.2)∈o by rw[←e];exact hp);rw[e1,bx.mpr hs];rfl
 ·rw[Kq h hs];exact(af0.mpr λq=>hs (bx.mp q)).symm
section
variable {P:Program}{w:World}{K:PySem.W.Frag}{mg:Zx}{base:Heap}{A:Ad}
theorem akk{f:Addr}{fd:FuncData}(T:Zm)(F:Zo "as_bits" "as_bits" DF f fd):Z3 GU Ro:=by
 have nd:=S3.nd;refine F.ok S3 Zj Zn
 ·obtain⟨a,ss,rfl,_⟩:=h;rfl
 ·obtain⟨a,ss,rfl,ha,hn,h7,k⟩:=h;have hl:=oh 7 ss hn h7;refine⟨_,(ak (ay (bW (aqt K rfl) Vo T.aaX arI (aa (dW (own:=[("step",1)]) rfl nd Zgy (show cB afj (aA DF) _ _ from Yf) ZeS Xc (λ_ _ _ _ _=>(cR aiM aR ZC))) ai)))),?_⟩;ext a;refine⟨UD,e8 (zs:=ss) Xe XF Zb Y9 (λs=>nat (2 ^ s)) Zbb W9⟩
  ·ext o
   have Fu:=h7 z Xv;have e:V.int (1*2 ^ ((z:Int)).toNat)=nat (2 ^ z):=by rw[mE,Int.one_mul];unfold nat;rw[Int.natCast_pow];rfl
   ext a;refine⟨⟨Pn z,Zb,Zk⟩,?_⟩;rw[e];exact bc rfl _ ZU
  ·refine⟨D,rfl,ss.map λs=>((2 ^ s:Nat):Int),Zhu,?_⟩;have e:(ss.map λs=>((2 ^ s:Nat):Int)).sum =((bits ss:Nat):Int):=by
    rw[(Og ss hn h7).2];clear h k ha hn h7 hl
    induction ss with
    |nil=>rfl
    |cons a r ih=>
     rw[cw,afq,ih];show _=((2 ^ a+ZoY r:Nat):Int);rw[Int.natCast_add]
   rw[e];exact Wx
theorem ajD{f:Addr}{fd:FuncData}(T:Zm)(F:Zo "open_pairs" "open_pairs" Ds f fd):Z3 Gz (Q3 A):=by
 have nd:=Sj.nd;refine F.ok Sj Zj Zn
 ·obtain⟨r,d,i,j,P,ab,c,o,word,a,ps,rfl,_⟩:=h;rfl
 ·obtain⟨r,d,i,j,P,ab,c,o,word,a,ps,rfl,hR,hO,hn,dg,hp,hl,k⟩:=h;ext Q;ext v;have n2:=Zaq;obtain⟨rs,dv,kC⟩:=hp;obtain⟨kvs,hd,eU⟩:=hO;have cE:(rs.zip ps).length =ps.length:=by rw[List.length_zip,du kC];omega
  have fF:(rs.zip ps).map Zg=rs:=List.map_fst_zip (by rw[du kC];exact ZA);have ma:(rs.zip ps).map Z1=ps:=List.map_snd_zip (by rw[du kC];exact ZA);have acg:∀z∈rs.zip ps,H z.1=some Zut:=λz hz=>by
   obtain⟨n,hn,e⟩:=zj.mp hz;rw[List.getElem_zip]at e;rw[cE]at hn;have h1:rs[n]? =some z.1:=by rw[←e];exact fP (by rw[du kC];exact hn)
   obtain⟨b,hb,q⟩:=gN kC h1;have h2:ps[n]? =some z.2:=by rw[←e];exact fP hn
   rw[hb]at h2;cases h2
   exact q
  refine⟨_,(ak (ay (dW (own:=[("pair",3)]) rfl nd (ZS (Uc ZcT ZR Z2)) (show cB ae6 (aA Ds) _ _ from Yf) Zis (λ_ _ _ _ _=>iX (PW.pt (Ka Zr5 (J_ Zr5)))) ZyI))),?_⟩;simp! [hR.ins,T.dD,n1,lQ,hR.plan.ins,T.bU,n2,n8];refine⟨_,dg,a,rfl,⟨_,Zkv⟩,e8 (zs:=rs.zip ps) Zkv (by rw[aq,cE,du kC]) Zb (λz=>(keys o).contains z.2.1&&(keys o).contains z.2.2) (λz=>V.ref z.1) Zbb W9⟩
  ·ext bs;have hza:z.1=ra:=by
    have:((rs.zip ps).map Zg)[m]? =some z.1:=by rw[cx,hz];rfl
    rw[fF,iF]at this;exact(bY this).symm
   subst hza;have ht:=s1.at (acg z Xv);have yg:=Zkx;have d1:Zeg (nat z.2.1) (W4 ZxI):=bZ.k (k:=ZxI) yg;have d2:Zeg (nat z.2.2) (W4 ZxJ):=bZ.k (k:=ZxJ) yg;ext a;refine⟨_,ZdY,_,bQ (j:=0) rfl,_,d1,?_⟩;rw[adL eU hn];have kz:((keys o).contains z.2.1&&(keys o).contains z.2.2)=((keys o).contains z.2.1&&(keys o).contains z.2.2):=rfl;cases e1:(keys o).contains z.2.1 with
   |false=>
    exact aF (hS (by rw[e1];rfl) _ ZU)
   |true=>
    refine aI ⟨_,ZdY,_,bQ (j:=1) rfl,_,d2,?_⟩;rw[adL eU hn];cases e2:(keys o).contains z.2.2 with
    |false=>exact aF (hS (by rw[e1,e2];rfl) _ ZU)
    |true=>exact aI (bc (by rw[e1,e2];rfl) _ ZU)
  ·refine ZfR ⟨((rs.zip ps).filter λz=>(keys o).contains z.2.1&&(keys o).contains z.2.2).map Zg,by rw[h,bz];rfl,?_⟩;have:jV ps XU=((rs.zip ps).filter λz=>(keys o).contains z.2.1&&(keys o).contains z.2.2).map Z1:=by
    conv=>lhs;rw[←ma]
    unfold jV;rw[wm];rfl
   rw[this];have key:∀l:List (Addr×(Nat×Nat)),(∀z∈l,H z.1=some Zut)->Paired (λr (p:Nat×Nat)=>H' r=some ZlA) (l.map Zg) (l.map Z1):=by
    intro l
    induction l with
    |nil=>intro _;exact .nil
    |cons z r ih=>intro hq;exact .cons (s1.at (hq z aY)) (ih λy hy=>hq y ZdT)
   exact key _ λz hz=>acg z (bD.mp hz).1
end
end
section
open Vbwbal (signer load goesWith fits unsigned subsets countWays)
theorem atD{a b:Bool}:qR (.bl a) WA=true:=rfl
theorem aql(a b:Bool):decide (V.bl a=V.bl b)=(a==b):=by cases a<;>cases b<;>rfl
section
variable {P:Program}{w:World}{K:PySem.W.Frag}{mg:Zx}{base:Heap}{A:Ad}
theorem akb{f:Addr}{fd:FuncData}(T:Zm)(p9:Zml)(FC:Zw "open_pairs" Gz 1 (Q3 A))(F:Zo "can_take" "can_take" xa f fd):X8 GP (Rk A):=by
 have nd:=SV.nd;refine F.ok SV Zj Zn
 ·obtain⟨r,d,a,i,j,P,ab,c,x,sh,rfl,_⟩:=h;rfl
 ·obtain⟨r,d,a,i,j,P,ab,c,x,sh,rfl,hR,wf,wc,hO,hx,ha,gj,hl,k⟩:=h;ext Q;have sk:=xN P ab c;have hn:(keys XM).Nodup :=by rw[sk];exact Vr
  refine⟨_,(ao (bg (bN pG (XI X7) (az p9 hr rfl (ZL Xm)) ZP) Uw bp)
   (ao (bg (eR (Z4 (ZeG (aa (dW (own:=[("step",4)]) rfl nd (ZS ZG) ZtD ZcD Xc (λ_ _ _ _ _=>(eE U1 ZR (Uc ZC YB Z2) rfl))) ai)) Z0)) Uw bp)
   (ao (bg (Z4 (Zhz (aa (dW (own:=[("first",5),("second",6)]) rfl nd (ZS (az FC hr rfl (ZL (Xi (aa cW ai))))) ZtD (λ_ _ _ _ _=>Zr1) Xc (λ_ _ _ _ _=>(lS Zxn (mW (eE U1 Za2 ZG rfl))))) ai)) Z0) Uw bp)
   (ak (ay (bW (vJ K rfl) (by rfl) T.rK vQ (aa (dW (own:=[("first",5),("second",6)]) rfl nd (cf K (az FC hr rfl (aa (pv 0) (aa (pv 1) (aa cW ai))))) (show cB G6 (aA xa) _ _ from cP (by decide+kernel)) (λ_ _ _ _ _=>(i4 2 K rfl (dn (aZ 5 nd) (dn (aZ 6 nd) iZ)))) (λ_ _ _ _ _=>fU) (λ_ _ _ _ _=>(eE cS (eE (kj K) (pv 5) (pv 3) rfl) (eE (kj K) (pv 6) (pv 3) rfl) (bB _)))) ai))))))),?_⟩
  ext a;refine⟨_,.inl ⟨_,Xe,(bA _).symm⟩,r,i,j,P,ab,c,x,rfl,hR,wc,hx,_,rfl,?_⟩;unfold mK at k;by_cases h1:(sh.length:Int)<=(cy P x:Int)-(load c x:Int)
  ·rw[bu h1,fm]at k;have Bn:decide ((cy P x:Int)-(load c x:Int)<(sh.length:Int))=false:=aX Zb;rw[Bn];refine aF ⟨UD,e8 (zs:=sh) Xe XF Zb Y9 (λt=>.bl ((ZJ t).contains x)) Zbb Zxw⟩
   ·ext o
    obtain⟨kvs,hd,eU⟩:=hO.same s1;have cO:(z,ZJ z)∈UW c:=aN.mpr ⟨z,gj z Xv,rfl⟩;obtain⟨q,e1,e2⟩:=rC eU hn cO;have dg:Zeg (nat z) (some XR):=by rw[←e1];exact bZ.k (k:=Sum.inl (z:Int)) hd
    ext a;exact⟨_,dg,nZ e2 Zc5⟩
   ·ext F;refine⟨D,rfl,sh.map λt=>(ZJ t).contains x,ZcH,_,rfl,?_⟩;rw[mC];have e0:(sh.all (id∘λt=>(ZJ t).contains x))=sh.all λt=>(ZJ t).contains x:=rfl;rw[e0];cases h2:(sh.all λt=>(ZJ t).contains x)with
    |false=>
     rw[h2,gK]at k;exact aI Zkr
    |true=>
     rw[h2,fm]at k;have fK:=XA;have vt:=hO.same s1;have dg1:bZ H1 j.d (.str "unlike") (some (.ref j.u)):=ZeP fK.plan.pairs;refine aF ⟨r,d,i,j,P,ab,c,_,"unlike",j.u,P.unlike,rfl,fK,vt,hn,dg1,fK.plan.unlike,wf.unlike,λH2 l2 s2 LU dP=>?_⟩;rw[sk]at dP;ext C;obtain⟨rs,dv,kC⟩:=dP;have hop:∀ps:List Xr,ps.length<=12->(jV ps Z7).length <=12:=λps h=>WO h;refine⟨l2,rfl,⟨_,Zkv⟩,e8 (zs:=Zf6 Z7) Zkv (by rw[aq];exact du kC) (by have:=hop _ wf.unlike;omega) Y9 (λy=>.bl (sh.contains y.1&&sh.contains y.2)) Ztk (λD2 H3 yx s3 h3=>?_)⟩
     ·ext bs;obtain⟨z',br,ht⟩:=gN kC iF;ext P
      have sy:=(cD.trans s3).at ha;refine⟨ra,_,rfl,bM.of (s3.at ht),rfl,?_⟩;ext a;refine nZ sy Yu;have hq:=bc rfl H' ZU;cases e1:sh.contains z.1 with
      |false=>
       rw[e1,gK]at hq;exact aF hq
      |true=>
       rw[e1,fm]at hq;exact aI (nZ sy hq)
     ·rw[filter_all]at h3;refine⟨D2,rfl,(Zf6 Z7).map λy=>sh.contains y.1&&sh.contains y.2,ag.of (by rw[h3,bz];rfl),_,rfl,?_⟩;rw[wq];have e3:((Zf6 Z7).any (id∘λy=>sh.contains y.1&&sh.contains y.2))=(Zf6 Z7).any λy=>sh.contains y.1&&sh.contains y.2:=rfl;rw[e3];have cG:=Zdq;cases h4:((Zf6 Z7).any λy=>sh.contains y.1&&sh.contains y.2)with
      |true=>
       rw[h4,qA,gK]at k;exact aI (k H3 cG)
      |false=>
       rw[h4,wD,fm]at k;have oG:=hR.same cG;have dg3:bZ H3 j.d (.str "alike") (some (.ref j.l)):=ZeR oG.plan.pairs;refine aF ⟨r,d,i,j,P,ab,c,_,"alike",j.l,P.alike,rfl,oG,hO.same cG,hn,dg3,oG.plan.alike,wf.alike,λH4 l4 s4 oA r9=>?_⟩;rw[sk]at r9;ext aK;obtain⟨rt,r6,xZ⟩:=r9;refine⟨l4,rfl,⟨_,ag.of r6⟩,e8 (zs:=jV P.alike Z7) (ag.of r6) (by rw[aq];exact du xZ) (by have:=hop _ wf.alike;omega) Y9 (λy=>.bl (sh.contains y.1==sh.contains y.2)) (λm v z H' hv hz s5 R S bc hS=>?_) (λD4 H5 vw s5 h5=>?_)⟩
       ·ext bs;obtain⟨z',br,ht⟩:=gN xZ iF;ext P
        have sy:=(jT.trans s5).at ha;refine⟨ra,_,rfl,bM.of (s5.at ht),rfl,?_⟩;ext a;refine nZ sy (nZ sy ZbG);rw[aql];exact bc rfl H' ZU
       ·rw[filter_all]at h5;refine⟨D4,rfl,(jV P.alike Z7).map λy=>sh.contains y.1==sh.contains y.2,ag.of (by rw[h5,bz];rfl),?_⟩;rw[mC];exact k H5 ZqH
  ·rw[aX h1,gK]at k;rw[bu (show(cy P x:Int)-(load c x:Int)<(sh.length:Int) by omega)];exact aI UO
theorem ajG{f:Addr}{fd:FuncData}(T:Zm)(F:Zo "one_person_on" "one_person_on" Js f fd):Z3 GB Q5:=by
 have nd:=Sm.nd;refine F.ok Sm Zj Zn
 ·obtain⟨d,l,k,ss,rfl,_⟩:=h;rfl
 ·obtain⟨d,l,cn,ss,rfl,hd,ok,hl,jv,k⟩:=h;ext j;refine⟨_,(ao (WN D1)
   (ao (T9 (dN dF rfl (Kh Yp) VJ (ak (dN dF rfl (ZS ZC) VM (ak (bg (WG (cR aiU ZG YB) aR ZP) (ak (Ae hu ZR (cR aaH ZG YB) (cR n_ (aav hu ZR (cR aaH ZG YB) aR ⟨rfl,rfl,rfl,rfl⟩) Znk) rfl)) bp))))))
   (ak (ay (pv 2))))),?_⟩
  ext a;ext bS;obtain⟨Hf,p7⟩:∃Hf,Hf=upd ZcU d (.bL od Zkf):=Zs;rw[←p7];have sL:ZkD ZcU Hf:=by rw[p7];exact IS Zkx
  have ml:Hf d=some (.bL od Zkf):=by rw[p7];exact au
  have fn:Hf n=some ZaR:=by rw[p7,ax ZiL];exact au
  have LR:l≠d:=ZuZ;have A6:l≠n:=cg hl hn;have Fd:Hf l=some Zao:=sL.at LR (s1.at hl);obtain⟨G,hG⟩:∃G:dz->Nat×Nat->dz,G=λf g=>Zo6:=Zs;have okT:∀m,jO ZvB:=λm=>by rw[hG];refine NZ ss jv _ [] ZyO λz hz=>ok.lt z ?_;obtain⟨y,hy,rfl⟩:=aN.mp hz;exact aN.mpr ⟨y,Cm hy,rfl⟩
  obtain⟨Pv,aB⟩:∃Pv:Nat->L2.St->Hp->Prop,∀m σ H',YG H'↔∃(v3 v4:ZM),σ=[some We,some Z5,some ZkP,v3,v4]/\WW Hf H'/\H' n=some (.dK (cntK ZvB)):=Ye;refine⟨_,rfl,d,od,rfl,.inl ⟨ZfH,ml,adk ZfH Pv ((Zi _).mpr ⟨none,none,rfl,BR n Hf,fn⟩) (λi σ H' _ hv=>let⟨_,_,_,s2,_⟩:=(Zi _).mp hv;s2.at gU ml) ?_ ?_⟩⟩
  ·intro m z σ H2 hz hv;obtain⟨v3,v4,rfl,s2,fH⟩:=(Zi _).mp hv;obtain⟨g,hg,rfl⟩:=get_map hz;have hgm:=bI hg;have hg7:g.1<128:=ok.lt g.1 (aN.mpr ⟨g,hgm,rfl⟩);obtain⟨c1,c2⟩:=FU ok.nd hgm;have ok0:=okT m;obtain⟨f0,Fj⟩:∃f0,f0=(cn.take m).foldl G []:=Zs;rw[←Fj]at fH ok0;obtain⟨Pw,cj⟩:∃Pw:Nat->L2.St->Hp->Prop,∀j σ H',Pw j σ H'↔∃(v4:ZM),σ=[some We,some Z5,some ZkP,some (nat g.1),v4]/\WW Hf H'/\H' n=some (.dK (cntK ((ss.take j).foldl ZeF f0))):=Ye;simp! [kV];refine⟨⟨_,ag.of (s2.at A6 Fd)⟩,ZfQ Pw ((Yk _).mpr ⟨v4,rfl,s2,fH⟩) (λi σ H' _ hv=>let⟨_,_,s3,_⟩:=(Yk _).mp hv;ag.of (s3.at A6 Fd)) ?_ ?_⟩
   ·intro j y σ H3 hy hv;ext dy;obtain⟨sh,hsh,rfl⟩:=Wo;have hs7:=jv sh (bI hsh);obtain⟨f1,L7⟩:∃f1,f1=(ss.take j).foldl ZeF f0:=Zs;have xA:jO f1:=by rw[L7];exact NY hg7 _ _ ok0 λt ht=>jv t (Cm ht)
    rw[←L7]at kE;have e1:(ss.take (j+1)).foldl ZeF f0=jg f1 g sh:=by rw[dA hsh,Pa,←L7];rfl
    have hand:Builtin.bitAnd (g.1:Int) (sh:Int)=((g.1&&& sh:Nat):Int):=arG _ _;have hor:V.int (Builtin.bitOr (g.1:Int) (sh:Int))=kV ZlQ:=by rw[arx];rfl
    have dgc:bZ H3 d (nat g.1) (some (nat g.2)):=.inl ⟨ZfH,Sum.inl (g.1:Int),.inr ⟨od,s3.at gU ml⟩,rfl,c1.symm⟩;have dgf:bZ H3 n (kV ZlQ) (eO (cntK f1) ZlQ):=bZ.k kE;ext a;rw[hor];by_cases h0:g.1&&& sh=0
    ·rw[hand,h0];have hw:jg f1 g sh=jJ f1 (g.1|||sh) g.2:=af h0;refine aI ⟨.inl ⟨_,.inl kE⟩,_,dgf,_,dgc,(dH f1 (g.1|||sh):Int),ad6 xA.nd _,_,rfl,_,qx.k kE (by unfold cntK;rw[aq];have:=xA.len;omega),?_⟩;refine(Yk _).mpr ⟨_,rfl,s3.put kE,?_⟩;rw[au,e1,hw,←aqI xA.nd];rfl
    ·rw[aX (by rw[hand];omega)];have hw:jg f1 g sh=f1:=ae h0;refine aF ((Yk _).mpr ⟨_,rfl,s3,?_⟩);rw[kE,e1,hw]
   ·ext B;ext dy;rw[bA,eg]at kE;refine(Zi _).mpr ⟨_,_,rfl,s3,?_⟩;rw[kE,dA hg,Pa,←Fj,hG];rfl
  ·ext b0;ext a;have kx:Z8 (Wy d Zkf):=by
    refine Zri ZfT
    ·exact s2.keep _ _ ZbV t Ztr
    ·ext b1
    ·exact ZtC
   refine k _ n kx hn ?_;rw[ax ZiL,hO];unfold cntK xy;rw[aq,eg,hG]
theorem aj6{f:Addr}{fd:FuncData}(T:Zm)(iK:ZcA)(qd:Zmu)(fA:Zac)
  (p_:ZlH) (M0:Zw "can_take" GP 2 (Rk A)) (FD:Zw "as_bits" GU 1 Ro) (MO:Zw "one_person_on" GB 1 Q5)
  (F:Zo "count_ways" "count_ways" DB f fd):Y2 5 f fd GL (Rh A):=by
 have nd:=SO.nd;refine F.ok SO Zj Zn
 ·ext L
 ·ext a4;ext j;refine⟨_,(ao Zko
   (ao (WN Zvd)
   (ao (XW (aiz aR aR))
   (ao (dN dF rfl (ZS Zmv) VM (ao (pC 5 (own:=[("share",6)]) rfl nd (ZS ZR) (show cB afe (aA DB) _ _ from Yf) (λ_ _ _ _ _=>Zkp) (λ_ _ _ _ _=>iX (Z4 (az M0 hr rfl (ZL (Xi (Zco (aa Za2 ai))))) Z0)) (λ_ _ _ _ _=>(az FD hr rfl (aa Za2 ai))))
   (ak (bq 3 nd (az MO hr rfl (aa (pv 3) (aa (pv 5) ai)))))))
   (ak (ay (aav hu (pv 3) (az FD hr rfl (aa (az fA hr rfl (aa (pv 0) ai)) ai)) aR ⟨rfl,rfl,rfl,rfl⟩))))))),?_⟩
  ext a;have hU:=Vr;have Bh:∀t∈Z9 c,t<7:=λt ht=>by have:=(xF.mp ht).1;have:=wf.steps;omega
  have ox:=TM P c;refine ZrU;refine⟨r,i,j,P,ab,c,rfl,XA,wf,λH2 u2 s2 auN pQ=>?_⟩;refine⟨u2,Z7,rfl,pQ,oh 7 _ hU Bh,ox,λH3 l3 s3 yc b0=>?_⟩;intro p hp;refine⟨[(Sum.inl 0,nat 1)],rfl,Zk,?_⟩;have em:xE [] [(Sum.inl 0,nat 1)]=cntK [(0,1)]:=rfl;rw[em];have s4:Wj (U5 p (.dK (cntK [(0,1)]))):=WD;ext V;ext aK;refine⟨r,i,j,P,ab,c,rfl,hR.same jT,wf,λH5 l5 s5 acH jB=>?_⟩;have uh:=ZqH;have xf:=ZaA;have E1:kX P ab=kY P ab:=rfl;rw[E1]at jB;have hpn:(kY P ab).Nodup :=(aft).filter _;obtain⟨rows,gS,gR⟩:=b0;have amB:H5 l3=some (.lst (rows.map V.ref)):=xf.at gS;obtain⟨Pv,aB⟩:∃Pv:Nat->L2.St->Hp->Prop,∀m σ H',YG H'↔∃(q:Addr) (cn:dz) (v4 v5 v6:ZM),σ=[some Yl,some (.ref d1),some (.ref l3),some XR,v4,v5,v6]/\ah H5 H'/\H' q=some Zkf/\jO cn/\Tells UK Z7 ((kY P ab).take m) cn:=Ye;refine⟨l5,rfl,⟨_,ag.of jB⟩,gH (nats ZdD) Pv ((Zi _).mpr ⟨p,[(0,1)],none,none,none,rfl,ZU,s5.at au,⟨Zh,λz hz=>by rw[bo.mp hz];decide⟩,agW _ _ hU⟩) (λi σ H' _ hv=>let⟨_,_,_,_,_,_,s6,_⟩:=(Zi _).mp hv;ag.of (s6.at jB)) ?_ ?_⟩
  ·intro m y σ H6 hy hv;ext cv;ext bx;have ot:=bI hx;have ku:x<P.persons.length:=dS.mp (bD.mp ot).1;have JR:=uh.trans s6;have acI:=s6.at amB;have aco:=K4 Z7 ((Z9 c).length +1);rw[als]at aco;have hul:=oh 7 _ hU Bh;have auP:(subsets Z7).length <=1024:=cq aco (by have h2:2 ^ (Z9 c).length <=2 ^ 7:=Zwo hul;exact cq (aeV (show(Z9 c).length +1<=8 by omega) h2) Zk)
   have fG:rows.length=(subsets Z7).length :=du gR;ext a;refine⟨⟨_,ag.of acI⟩,e8 (zs:=subsets Z7) (ag.of acI) (by rw[aq];exact fG) Zb (UK x) (λsh=>nat (bits sh)) (λn v z H' ig hz s7 R S bc hS=>?_) (λD7 H7 hD7 s7 h7=>?_)⟩
   ·obtain⟨ra,iF,rfl⟩:=get_map ig;obtain⟨z',br,eS⟩:=gN gR iF;ext P
    have cO:=Xv;obtain⟨m1,m2⟩:=zM cO;have hzn:=Ic hU cO;have xc:=(xf.trans s6).trans s7;ext a;refine⟨r,d1,ra,i,j,P,ab,c,x,z,rfl,hR.same (cG.trans xc),wf,wc,vt.same ((s2.trans s3).trans xc),ku,xc.at eS,m1,Zb,λH8 s8=>Yu⟩;cases e:UK x z with
    |false=>exact aF (hS e _ s8)
    |true=>exact aI ⟨ra,z,rfl,s8.at (xc.at eS),hzn,λt ht=>Bh t (m1 t ht),λH9 s9=>bc e _ (s8.trans s9)⟩
   ·obtain⟨ss,jv⟩:∃ss,ss=((subsets Z7).filter (UK x)).map bits:=Zs;have h7':H7 D7=some Zao:=by rw[h7,jv];unfold nats;rw[bz];rfl
    have bG:∀t∈ss,t<128:=λt ht=>by rw[jv]at ht;obtain⟨ch,gW,rfl⟩:=aN.mp ht;have nt:=(bD.mp gW).1;exact(Og ch (Ic hU nt) λu hu=>Bh u ((zM nt).1 u hu)).1
    refine⟨q,D7,cn,ss,rfl,s7.at hq,Eh,h7',bG,λH8 d8 s8 avb hd8=>?_⟩;refine(Zi _).mpr ⟨d8,_,_,_,_,rfl,(s6.trans s7).trans s8,hd8,aqJ Eh bG,?_⟩;rw[dA hx,jv];exact agX hU (zI hpn hx) tl
  ·intro σ H6 hv;ext cv;rw[bA,eg]at tl;have JR:=uh.trans s6;ext a;refine⟨.inl ⟨_,.inl hq⟩,r,i,j,P,ab,c,rfl,hR.same JR,wf,λH7 l7 s7 acF pX=>⟨l7,Z7,rfl,pX,hU,Bh,λH8 s8=>?_⟩⟩;have xb:=s7.trans s8;refine⟨_,bZ.k (k:=Zwq) (xb.at hq),?_⟩;have e0:(eO ZfH Zwq).getD (V.int 0)=nat (Zc7 Z7 c):=by rw[←aqx P ab c (λy hy=>VY (hy.elim (λq=>Zge) λq=>ZiW)) wc.room tl];exact ad6 Eh.nd _
   rw[e0];exact k H8 (JR.trans xb)
end
end
section
theorem ahJ:Zpr "set.__iter__"=some Builtin.«frozenset.__iter__»:=
 entryFor_alias (id':="frozenset.__iter__") Uq rfl (by decide+kernel) Uq
theorem wZ:Slot "set_iterator" "__next__" "set_iterator.__next__":=
 .of (owner:="set_iterator") (n:="__next__") (by rw[typeLookup_type,builtinLookup_eq_fast];kernel_rfl) ZT ZT ZT (by first |exact .inl (by decide+kernel)|exact .inr (by decide+kernel)) (by rw[ab2];kernel_rfl)
theorem Rw:Zpr "set_iterator.__next__"=some Builtin.«set_iterator.__next__»:=entryFor_of_tree Uq
theorem Rv:Manifest.owners.lookup (String.ofList "set_iterator".toList.reverse.reverse)=some Manifest.sig_set_iterator:=by kernel_rfl
theorem Rx(a:Value):argsOk "set_iterator.__next__" ⟨[a],[]⟩:=by unfold argsOk;rw[IJ (id:="set_iterator.__next__") (n:="__next__".toList.reverse) (o:="set_iterator".toList.reverse) Uq Rv];kernel_rfl
theorem Rz:Slot "set_iterator" "__iter__" "set_iterator.__iter__":=
 .of (owner:="set_iterator") (n:="__iter__") (by rw[typeLookup_type,builtinLookup_eq_fast];kernel_rfl) ZT ZT ZT (by first |exact .inl (by decide+kernel)|exact .inr (by decide+kernel)) (by rw[ab2];kernel_rfl)
theorem ahx:Zpr "set_iterator.__iter__"=some Builtin.«dict_keyiterator.__iter__»:=
 entryFor_alias (id':="dict_keyiterator.__iter__") Uq rfl (by decide+kernel) Uq
theorem ahy(a:Value):argsOk "set_iterator.__iter__" ⟨[a],[]⟩:=by unfold argsOk;rw[IJ (id:="set_iterator.__iter__") (n:="__iter__".toList.reverse) (o:="set_iterator".toList.reverse) Uq Rv];kernel_rfl
def j_(h:Heap)(a:Addr)(es:WL)(ep:Nat)(t:SetTable):Prop:=∃o,h.get? a=some o/\o.ExactSet/\o.data=.set es ep t
section
variable {prog:Program}{w:World}{A:Around}{E:Zt}{s:Shared}{a it:Addr}{es:WL}{ep:Nat}{t:SetTable}
theorem j_.typeIs(x:ZcS t):s.TypeIs ZX "set":=let⟨o,ho,hx,_⟩:=x;⟨o,ho,hx.1⟩
theorem Hu{Q:Zne}(h:Q (w.params.followText "set-order") s):YC setsByText Q E s:=by unfold setsByText;exact aj (P2 (aL h))
theorem ahG{Q:Zt}(x:ZcS t)(hf:ZnA)(hp:t.plain=true)
  (hQ:Q Yn {s with heap:=s.heap.push {cls:=.type "set_iterator",data:=.fields #[.int 0 0,.int 0 0,.ref a,.int es.size 0,.int ep 0]}}):YC (pyIter ZX) Q E s:=by
 obtain⟨o,ho,hx,hd⟩:=id x;refine HA x.typeIs PySem.F.slot_set_iter (mJ PySem.F.slot_set_iter x.typeIs ahJ ?_ (PySem.F.args_set_iter_1 _));unfold Builtin.«frozenset.__iter__» Builtin.Frozenset.slot0 slotArgs;simp only[afv,qA,kf,↓reduceIte,bind_assoc,jM,aee];unfold Builtin.Frozenset.addrOf Builtin.Frozenset.sizeOf;refine aj (aL (aj (aL (aj (aj (PV ho hd hf Ys))))));have hdr:ZaF (setDrawn a) (λb s'=>b=false/\s'=s) E s:=by unfold setDrawn;refine aj (ZjT (aj (Hu (aL ⟨?_,rfl⟩))));obtain⟨t1,t2,t3,t4,t5,t6,t7⟩:=t;have E4:t7=true:=hp;subst E4;cases w.params.followText "set-order"<;>rfl
 refine aj (gL hdr (λb s' hb=>?_) λ_ _ x=>x);obtain⟨rfl,rfl⟩:=hb;rw[ae eh];refine aj (aL (aj (wpAny_setEpoch_of ho hd hf ?_)));unfold newFields;refine aj (wJ (aL ⟨_,rfl,"set_iterator",_,Zih,wZ.lookup,?_⟩));exact hQ
def vU(h:Heap)(it a:Addr)(n ep sl i:Nat):Prop:=∃o,h.get? it=some o/\o.cls=.type "set_iterator"/\o.data=.fields #[.int sl 0,Xs 0,.ref a,Zd4 0,.int ep 0]
theorem vU.typeIs{n sl i:Nat}(x:Zje n ep sl i):s.TypeIs Wq "set_iterator":=let⟨o,ho,hc,_⟩:=x;⟨o,ho,hc⟩
theorem ahw{n sl i:Nat}{Q:Zt}(x:Zje n ep sl i)(h:Q Wq s):YC (pyIter Wq) Q E s:=by refine HA x.typeIs Rz (mJ Rz x.typeIs ahx ?_ (ahy _));show ZaF (ret Wq) _ _ s;exact aL ⟨_,rfl,"set_iterator",_,x.typeIs,wZ.lookup,h⟩
theorem ahD{Q:ZcN}{sl i sl':Nat}{v:Value}(x:Zje es.size ep sl i)(y:ZcS t)(hf:ZnA)
  (hn:∀(Q':ZlB),Q' (some (v,sl')) s->Zt8)
  (hQ:∀h',vU h' it a es.size ep sl' XG->Zv0->Q VU {s with heap:=h'}):ZhS:=by
 ext bB;rw[ae Zh];refine aj (gL (hn (λr s'=>r=some (v,sl')/\s'=s) Uy) (λr s' hr=>?_) λ_ _ h=>h.elim);ext aB;refine Znh;have x9:=zu (Obj.mapFields (·.setIfInBounds 0 (rawInt (sl':Int)))) ho (aeQ ZgB);refine aj (CA x9 ZgB Zh ?_);have LI:=zu ZrC x9 (aeQ (wd ZgB _));refine aL ⟨_,rfl,aL (hQ _ ⟨_,LI,?_,?_⟩ ((wx ..).trans (wx ..)))⟩
 ·rw[aeR,aeR];exact hc
 ·rw[wd ZgB];simp[rawInt]
theorem ahH{Q:ZcN}{sl i:Nat}(hh:Vc)(x:Zje es.size ep sl i)(y:ZcS t)(hf:ZnA)
  (hn:∀(Q':ZlB),Q' none s->Zt8)
  (hQ:ZrE):ZhS:=by
 ext bB;rw[ae Zh];refine aj (gL (hn (λr s'=>r=none/\s'=s) Uy) (λr s' hr=>?_) λ_ _ h=>h.elim);ext aB;refine aj (CA ho hd Zh (aj ?_));ext bE;have hh1:A.in1.handled=none:=hh;rw[hh1];refine Zwv;refine aj (HF (b:=true) (T:="StopIteration") Zih ab3 (aL (hQ _ ?_)));exact((wx ..).extBut.push _).push _
end
end
section
def bO(m:Nat):Za:=(List.range 8).filter λi=>m.testBit i
def cH(m:Nat)(led:Bool):SetTable:={mask:=if(bO m).length <=4 then 7 else 31,place:=(bO m).toArray,dummies:=#[],finger:=0,led:=led,moves:=if(bO m).length <=4 then 0 else 1,plain:=true}
def um(m x:Nat):Nat:=(bO m).countP λi=>decide (i<x)
def fW(m x:Nat)(led:Bool):SetTable:={cH m led with place:=(bO (m|||1<<<x)).toArray}
def gY(m x:Nat)(led:Bool):Bool:=
 m.testBit x||(decide ((cH m led).freeSlot (x:Int)=some (x,false))&&decide ((cH m led).put x=(V6 led,um m x))&&(V6 led).fits Zah&&
  (if(V6 led).tooFull then decide ((V6 led).relaid ((bO (m|||1<<<x)).map λ(i:Nat)=>(i:Int)).toArray Zxf=some Ztv)
   else decide (fW m x led=cH (m|||1<<<x) led))&&(cH m led).fits (bO m).length &&decide (bO (m|||1<<<x)=(bO m).insertIdx (um m x) x)&&decide ((bO (m|||1<<<x)).length =(bO m).length +1))
theorem aos(led:Bool):SetTable.fresh 0 0 led=cH 0 led:=by cases led<;>decide
theorem aq5:((List.range 32).all λm=>(List.range 8).all λx=>gY (0+m) x true)=true:=by decide+kernel
theorem aq4:((List.range 32).all λm=>(List.range 8).all λx=>gY (32+m) x true)=true:=by decide+kernel
theorem aq3:((List.range 32).all λm=>(List.range 8).all λx=>gY (64+m) x true)=true:=by decide+kernel
theorem aq2:((List.range 32).all λm=>(List.range 8).all λx=>gY (96+m) x true)=true:=by decide+kernel
theorem aq1:((List.range 32).all λm=>(List.range 8).all λx=>gY (128+m) x true)=true:=by decide+kernel
theorem aq0:((List.range 32).all λm=>(List.range 8).all λx=>gY (160+m) x true)=true:=by decide+kernel
theorem aqZ:((List.range 32).all λm=>(List.range 8).all λx=>gY (192+m) x true)=true:=by decide+kernel
theorem aqY:((List.range 32).all λm=>(List.range 8).all λx=>gY (224+m) x true)=true:=by decide+kernel
theorem aqW:((List.range 32).all λm=>(List.range 8).all λx=>gY (0+m) x false)=true:=by decide+kernel
theorem aqV:((List.range 32).all λm=>(List.range 8).all λx=>gY (32+m) x false)=true:=by decide+kernel
theorem aqU:((List.range 32).all λm=>(List.range 8).all λx=>gY (64+m) x false)=true:=by decide+kernel
theorem aqT:((List.range 32).all λm=>(List.range 8).all λx=>gY (96+m) x false)=true:=by decide+kernel
theorem aqS:((List.range 32).all λm=>(List.range 8).all λx=>gY (128+m) x false)=true:=by decide+kernel
theorem aqR:((List.range 32).all λm=>(List.range 8).all λx=>gY (160+m) x false)=true:=by decide+kernel
theorem aqQ:((List.range 32).all λm=>(List.range 8).all λx=>gY (192+m) x false)=true:=by decide+kernel
theorem aqP:((List.range 32).all λm=>(List.range 8).all λx=>gY (224+m) x false)=true:=by decide+kernel
end
section
def arC(m sl:Nat):Nat:=SetTable.below (bO m).toArray sl
def agl(m:Nat):Bool:=(List.range Zah).all λi=>decide (arC m (match i with |0=>0|j+1=>(bO m).getD j 0+1)=i)
theorem agk:((List.range 256).all agl)=true:=by decide+kernel
def zP(m i:Nat):Nat:=match i with
 |0=>0
 |j+1=>(bO m).getD j 0+1
theorem arB{m i:Nat}(hm:m<256)(hi:i<=(bO m).length):SetTable.below (bO m).toArray (zP m i)=i:=by have h:=dh.mp agk m (dS.mpr hm);have h2:=dh.mp h i ZfY;exact lW h2
def Hl(es:WL)(m:Nat):Prop:=es.size=(bO m).length /\∀(i k:Nat),(bO m)[i]? =some k->∃tk:Nat,es[i]? =some ((k:Int),Zoc tk)
section
variable {prog:Program}{w:World}{A:Around}{E:Zt}{s:Shared}{a it:Addr}{es:WL}{ep:Nat}
def iB(w:World)(a:Addr)(ep:Nat)(es:WL):WL:=if w.params.followText "set-order"=true then pickOrder Zmp es else es
def nU(w:World)(m i:Nat):Nat:=if w.params.followText "set-order"=true then 0 else zP m i
theorem aaU{m i:Nat}{Q:ZlB}(hm:m<256)(he:Hl es m)(hi:i<=(bO m).length)(x:ZcS (cH m Zk6))(hf:Zl2)
  (h:Q (((VP es)[i]?).map λe=>(e.2,Zct XG)) s):YC (setNext a (Zct i) i ep) Q E s:=by
 obtain⟨o,ho,hx,hd⟩:=id x;unfold setNext;refine aj (ZjT ?_);refine aj (Hu ?_);cases hb:w.params.followText "set-order"with
 |true=>
  have e1:VP es=pickOrder Zmp es:=by unfold iB;rw[af hb]
  have e2:∀j,Zct j=0:=λj=>by unfold nU;rw[af hb]
  rw[e1,e2]at h;rw[e2,af rfl];ext i;rw[ae Zh];unfold setWalk;refine aj (aj (ZjT (aj (Hu ?_))));rw[af hb];exact aj (P2 Zqq)
 |false=>
  have e1:VP es=es:=by unfold iB;rw[ae (by rw[hb];simp)]
  have e2:∀j,Zct j=zP m j:=λj=>by unfold nU;rw[ae (by rw[hb];simp)]
  rw[e1,e2]at h;rw[e2,ae Zh];ext i;refine aeH (λhh=>absurd (show false=true from hh) eh) (λ_=>?_);refine Zs0;have e3:SetTable.below (cH m !false).place (zP m i)=i:=arB hm hi;rw[e3];have e4:(cH m !false).place[i]? =(bO m)[i]? :=by show(bO m).toArray[i]? =_;simp
  rw[e4];by_cases bG:i<(bO m).length
  ·obtain⟨k,hk⟩:∃k,(bO m)[i]? =some k:=⟨_,fP bG⟩;obtain⟨tk,ht⟩:=he.2 i k hk;have e5:zP m XG=k+1:=by show(bO m).getD i 0+1=k+1;rw[jN,hk];rfl
   rw[hk,ht];rw[ht,e5]at h;exact aL h
  ·have hk:(bO m)[i]? =none:=Cr Zb;have ht:es[i]? =none:=PJ (by rw[he.1];omega);rw[hk,ht];rw[ht]at h;exact aL h
theorem ady{α:Type}:∀(l:ZN) (n:Nat) (h:n<l.length),(l[n]::l.eraseIdx n).Perm l
 |a::r,0,h=>Pf _
 |a::r,n+1,h=>by
  have hn:n<r.length:=by simpa using h
  have ih:=ady r n hn;show(r[n]::a::r.eraseIdx n).Perm (a::r);exact(List.Perm.swap a _ _).trans (ih.cons a)
theorem ac2(next:Nat->Nat):∀(fuel k:Nat) (left:List (Int×Value)) (out:WL),left.length<=fuel->(pickOrder.go next fuel k left out).toList.Perm (out.toList++left)
 |0,k,left,out,h=>by have:left=[]:=Cp.mp Zb;subst this;unfold pickOrder.go;rw[fc]
 |fuel+1,k,left,out,h=>by
  unfold pickOrder.go;by_cases h0:left=[]
  ·subst h0;simp
  ·have hl:0<left.length:=sX.mpr h0;have bG:next k % left.length<left.length:=Nat.mod_lt _ hl
   rw[fP bG];ext i;refine(ac2 next fuel (k+1) _ _ (by rw[List.length_eraseIdx_of_lt bG];omega)).trans ?_;rw[Array.toList_push,eC];refine List.Perm.append_left _ ?_;exact ady left _ bG
theorem aaB(w:World)(a:Addr)(ep:Nat)(es:WL):(VP es).toList.Perm es.toList:=by
 unfold iB;split
 ·have:=ac2 Zmp es.size 0 es.toList #[] (by rw[oY];exact ZA);simpa[pickOrder]using this
 ·exact Pf _
theorem Ko(w:World)(a:Addr)(ep:Nat)(es:WL):(VP es).size =es.size:=by have:=(aaB w a ep es).length_eq;simpa using this
theorem avv{m:Nat}{led:Bool}(he:es.size=(bO m).length)(hf:(cH m led).fits (bO m).length =true):(cH m led).fits es.size=true:=by rw[he];exact hf
theorem agu{m:Nat}(hh:Vc)(hm:m<256)(he:Hl es m)(hf:Zl2)(I:Addr)(aK:a≠I):
  Walks prog w A I [I,a] [I] es.size Zsg (λi h=>vU h I a es.size ep (Zct i) i/\ZwX) where
 sub:=λb hb=>by simp at hb;simp[hb]
 frame:=λi h h' st hk=>by obtain⟨⟨o,e1,e2⟩,⟨o',e3,e4⟩⟩:=st;exact⟨⟨o,hk I Zh o e1,e2⟩,⟨o',hk a Zh o' e3,e4⟩⟩
 item:=λi s Q E hi st hQ=>by
  obtain⟨x,y⟩:=st;have bG:i<(VP es).size :=by rw[Ko];exact hi
  have vh:(VP es)[i]? =some (VP es)[i]:=atz bG;refine ahD (v:=(VP es)[i].2) (sl':=Zct XG) x y hf (λQ' hq=>?_) λh' z sb=>?_
  ·refine aaU (s:=s) hm he (by rw[he.1]at hi;omega) y hf ?_;rw[vh];exact hq
  ·obtain⟨o',e3,e4⟩:=y;exact hQ _ h' s.toks ⟨_,vh,rfl⟩ ⟨z,o',sb.extBut a o' aK e3,e4⟩ λb o hb e=>sb.extBut b o ZwG e
 done:=λs Q E st hQ=>by obtain⟨x,y⟩:=st;refine ahH hh x y hf (λQ' hq=>?_) λh' ex=>hQ h' s.toks λb o hb e=>ex b o ZwG e;refine aaU (s:=s) hm he (by rw[he.1];exact ZA) y hf ?_;rw[PJ (by rw[Ko];exact ZA)];exact hq
 self:=λi s Q E st hQ=>ahw st.1 hQ
theorem anf{r:Addr}{Q:Zne}(hT:s.TypeIs Yl "set")(h:Q false s):YC (Builtin.List.listLengthHint Yl) Q E s:=by
 unfold Builtin.List.listLengthHint;refine aj (PU hT PySem.F.slot_set_len.lookup ?_);generalize hid:("set.__len__":String)=id0
 wp_delta
 rw[show splitId id0=some ("set","__len__") by subst hid;decide+kernel];subst hid;refine aj (HF (b:=true) (T:="set") hT (by rw[ab2];kernel_rfl) ?_);refine aeH (λdc=>absurd dc Zk) (λ_=>?_);refine aeH (λ_=>?_) (λdc=>absurd ZT dc);exact aj (wpAny_typeOf hT (aL h))
theorem ahh{m:Nat}(hm:m<256)(he:Hl es m)(hf:Zl2):
  PySem.W.KdlSrc prog w "set" a a es.size Zsg (λh=>ZwX) where
 type:=λ_ x=>x.typeIs
 there:=λ_ x=>let⟨o,ho,_⟩:=x;⟨bT ho,bT ho⟩
 keep:=λ_ _ x hk=>let⟨o,ho,r⟩:=x;⟨o,hk a Xd o ho,r⟩
 notList:=by decide
 notTuple:=by decide
 hint:=λ_ _ _ _ x hq=>anf x.typeIs hq
 iter:=λA s hh x=>by
  obtain⟨o,ho,r⟩:=id x;refine⟨_,_,λE Q hq=>ahG x hf rfl hq,agu hh hm he hf s.heap.objs.size (eB (bT ho)),ZmO,⟨o,cV _ ho,r⟩⟩;have:Zct 0=0:=by unfold nU;split<;>rfl
  rw[this];rfl
end
end
section
theorem ab8:∀(l:Zq) (f:YX),(∀(j:Nat) v,l[j]? =some v->∃t,v=.int (f j) t)->IntsAre l ((List.range l.length).map f)
 |[],f,_=>.nil
 |v::r,f,h=>by obtain⟨t,rfl⟩:=h 0 v rfl;have ih:=ab8 r (λj=>f (j+1)) λj u hu=>h (j+1) u hu;rw[bb,O4,cw,bz];exact .cons _ _ ih
section
variable {prog:Program}{w:World}{A:Around}{E:Zt}{s:Shared}{T:String}{r d:Addr}{n:Nat}{P:Nat->Value->Prop}{OK:Heap->Prop}
theorem aqE{Q:Zq->Shared->Prop}(K:ZtJ)(hh:Vc)(aC:OK s.heap)(hn:ZqK)
  (hQ:∀h' tk (acc:YN),(∀b o,s.heap.get? b=some o->h'.get? b=some o)->s.heap.objs.size<h'.objs.size->ItemsOf P acc n->Q acc.toList {s with heap:=h',toks:=tk}):YC (collect Yl) Q E s:=by
 obtain⟨hr,hd⟩:=K.there _ aC;unfold collect;refine aj (wpAny_runValue (yR entry_proto_collect' ?_));show Ue _ (do again (.builtin "list.__iadd__" ⟨[←newList [],.ref r],[]⟩)) _ _ s;refine aj (wpAny_newList (aL ⟨afW _ ZT,yR entry_list_iadd' ?_⟩));have hS:(s.heap.push Zw2).get? s.heap.objs.size=some {cls:=Yg,data:=.seq #[] 0}:=dj _ rfl;have LF:OK (s.heap.push Zw2):=K.keep _ _ aC λb _ o e=>XY;rw[PK (show plainId "list.__iadd__"=true by decide+kernel) _];show ZaF (Builtin.List.listExtendWith Yn Yl Yn) _ _ {s with heap:=s.heap.push (seqObj "list" #[] 0)};refine PySem.W.kdl_extend (R:=λr s'=>match r with
  | .ok (.ret v)=>Ue A (match v with
   | .ref a=>do
    match(←load a).data with
    | .seq xs _=>pure xs.toList
    |_=>unsupported "internal:collect"
   |_=>unsupported "internal:collect") Q E s'
  | .ok _=>False
  | .error e=>E e s') (s:={s with heap:=s.heap.push (seqObj "list" #[] 0)}) K hh LF s.heap.objs.size (oR hr) (oR hd) (.ref s.heap.objs.size) 0 hS (λh' tk F7 c' hk yl sx=>?_) hn
 refine aj (wpAny_load yl (aL (hQ h' tk F7 (λb o e=>?_) (bT yl) sx)));exact hk b o ZkU XY
theorem aho{Q:Zt}(K:ZtJ)(hh:Vc)(aC:OK s.heap)(hn:ZqK)(val:YX)(hv:∀i v,P i v->∃t,v=.int (val i) t)
  (hQ:∀h' tk (D:Addr) (vs:Zq) (ns:ZK) (c:Nat),(∀b o,s.heap.get? b=some o->h'.get? b=some o)->s.heap.objs.size<=D->h'.get? D=some (seqObj "list" vs.toArray c)->IntsAre vs ns->ns.Perm ZvA->ns.Pairwise (· <=·)->Q Vh {s with heap:=h',toks:=tk}):
  wpAny Y5 A (call Znb [.ref r]) Q E s:=by
 refine Calls.call_function_entry kind_sorted plain_sorted entry_sorted (args_sorted1 _) ?_;unfold Builtin.«sorted»;refine aj (m:=checkCount "sorted" 1 1 _) (aL (aj (aqE (A:=A.in1) K hh aC hn λh1 zH acc gT anC sx=>?_)));have hI:IntsAre acc.toList ZvA:=by have:=ab8 acc.toList val λj v hj=>hv j v (sx.2 j v (by rw[←af4];exact hj));rw[oY,sx.1]at this;exact this
 have acn:acc.toList.length<=sizeLine:=by rw[oY,sx.1];exact hn
 refine aj (wpAny_newList ?_ acn);have vb:(h1.push Zs5).get? h1.objs.size=some Zs5:=dj _ rfl;show Ue _ _ _ _ {s with heap:=h1.push (seqObj "list" acc.toList.toArray 0),toks:=zH};refine aj (nN (mJ slot_list_sort ⟨_,vb,rfl⟩ entry_list_sort (list_sort_treeAny (s:={s with heap:=h1.push (seqObj "list" acc.toList.toArray 0),toks:=zH}) vb hI acn λout ns' a1 a2 a3=>Yu) (args_list_sort _)));refine aL Yu;obtain⟨e,he⟩:=sortedHeap_at (out:=out) vb;refine hQ _ zH h1.objs.size out.toList ns' e (λb o hb=>?_) ?_ (by simpa using he) a1 a2 a3
 ·have jE:=gT b o hb;have bG:=bT jE;rw[sortedHeap_old (eB bG) (by rw[gb];exact Cg bG)];exact cV _ jE
 ·exact iP anC
end
end
section
def el(f:UM)(k:Nat):Int×Value:=((k:Int),Zoc (f k))
def mH(es:WL)(m:Nat):Prop:=∃f,es.toList=(bO m).map (el f)
theorem mH.els{es:WL}{m:Nat}(h:mH es m):Hl es m:=by obtain⟨f,e⟩:=h;refine⟨by rw[←oY,e,aq],λi k hk=>⟨f k,?_⟩⟩;rw[←af4,e,cx,hk];rfl
theorem aa9{α β:Type}(g:α->β):∀(l:ZN) (p:Nat) (a:α),(ZpS a).map g=(l.map g).insertIdx p (g a)
 |l,0,a=>rfl
 |[],p+1,a=>rfl
 |b::l,p+1,a=>by show g b::(ZpS a).map g=g b::(l.map g).insertIdx p (g a);rw[aa9 g l p a]
theorem amb{α:Type}(es:Array α)(p:Nat)(x:α)(h:p<=es.size):(Zym p x).toList =es.toList.insertIdx p x:=by
 unfold SetTable.insertAt;have:∀(l:ZN) (p:Nat),p<=l.length->l.take p++x::l.drop p=ZpS x:=by
  intro l
  induction l with
  |nil=>
   intro p hp;have:p=0:=by simpa using hp
   subst this;rfl
  |cons b r ih=>
   intro p hp;cases p with
   |zero=>rfl
   |succ p=>
    show b::(r.take p++x::r.drop p)=b::r.insertIdx p x;rw[ih p (by simpa using hp)]
 rw[←this es.toList p Zoj];simp[Array.toList_extract,List.extract_eq_drop_take];exact we (by rw[mB,oY];exact ZA)
theorem aqX(m x:Nat)(led:Bool)(hm:m<256)(hx:x<8):gY m x led=true:=by
 have go:∀c:Nat,((List.range 32).all λm=>(List.range 8).all λx=>gY (c+m) x led)=true->c<=m->m<c+32->gY m x led=true:=λc h h1 h2=>by
  have e1:=dh.mp h (m-c) ZfY;have e2:=dh.mp e1 x (dS.mpr hx);have e3:c+(m-c)=m:=by omega
  rw[e3]at e2;exact e2
 have pick:(m<32∨(32<=m/\m<64)∨(64<=m/\m<96)∨(96<=m/\m<128))∨((128<=m/\m<160)∨(160<=m/\m<192)∨(192<=m/\m<224)∨(224<=m/\m<256)):=by omega
 cases led with
 |true=>
  rcases pick with(h|h|h|h)|(h|h|h|h)
  ·exact go 0 aq5 Zb Zb
  ·exact go 32 aq4 Zb Zb
  ·exact go 64 aq3 Zb Zb
  ·exact go 96 aq2 Zb Zb
  ·exact go 128 aq1 Zb Zb
  ·exact go 160 aq0 Zb Zb
  ·exact go 192 aqZ Zb Zb
  ·exact go 224 aqY Zb Zb
 |false=>
  rcases pick with(h|h|h|h)|(h|h|h|h)
  ·exact go 0 aqW Zb Zb
  ·exact go 32 aqV Zb Zb
  ·exact go 64 aqU Zb Zb
  ·exact go 96 aqT Zb Zb
  ·exact go 128 aqS Zb Zb
  ·exact go 160 aqR Zb Zb
  ·exact go 192 aqQ Zb Zb
  ·exact go 224 aqP Zb Zb
structure asd(m x:Nat)(led:Bool):Prop where
 free:(cH m led).freeSlot (x:Int)=some (x,false)
 put:(cH m led).put x=(V6 led,um m x)
 fits:(V6 led).fits Zah=true
 lay:if(V6 led).tooFull =true then(V6 led).relaid ((bO (m|||1<<<x)).map λ(i:Nat)=>(i:Int)).toArray Zxf=some Ztv else V6 led=cH (m|||1<<<x) led
 avw:(cH m led).fits (bO m).length =true
 mem:bO (m|||1<<<x)=(bO m).insertIdx (um m x) x
 len:(bO (m|||1<<<x)).length =(bO m).length +1
theorem ahg{m x:Nat}{led:Bool}(hm:m<256)(hx:x<8)(hn:m.testBit x=false):asd m x led:=by
 have h:=aqX m x led hm hx;unfold gY at h;rw[hn,Hq]at h;simp only[aP,bX]at h;obtain⟨⟨⟨⟨⟨⟨h1,h2⟩,h3⟩,h4⟩,h5⟩,h6⟩,h7⟩:=h;refine⟨h1,h2,h3,?_,h5,h6,h7⟩;by_cases e:(V6 led).tooFull =true
 ·rw[af e]at h4⊢;exact lW h4
 ·rw[ae e]at h4⊢;exact lW h4
end
section
theorem acV{k:Nat}(h:k<8):hashInt (k:Int)=(k:Int):=by
 have h8:((List.range 8).all λk=>decide (hashInt (k:Int)=(k:Int)))=true:=by decide+kernel
 exact lW (dh.mp h8 k (dS.mpr h))
theorem aoA:((List.range 256).all λm=>(cH m true).fits (bO m).length &&(cH m false).fits (bO m).length)=true:=by decide+kernel
theorem Nt{m:Nat}(led:Bool)(hm:m<256):(cH m led).fits (bO m).length =true:=by
 have h:=dh.mp aoA m (dS.mpr hm);rw[aP]at h;cases led
 ·exact h.2
 ·exact h.1
theorem TV{α:Type}:∀l:List α,(List.range l.length).filterMap (λi=>l[i]?)=l
 |[]=>rfl
 |a::r=>by rw[bb,O4,He,List.filterMap_map];show a::(List.range r.length).filterMap (λi=>r[i]?)=a::r;rw[TV r]
theorem aaC{m k:Nat}(hm:m<256)(hk:k<8):m|||1<<<k<256:=by refine Nat.or_lt_two_pow (n:=8) hm ?_;rw[aeU,Nat.one_mul];exact Nat.pow_lt_pow_right Zk hk
theorem Es{m k:Nat}:k∈bO m↔k<8/\m.testBit k=true:=by unfold bO;rw[bD,dS]
section
variable {prog:Program}{w:World}{A:Around}{E:Zt}{s:Shared}{a:Addr}{es:WL}{ep m:Nat}{led:Bool}
theorem aqb(h:mH es m):ElemsOf (Zdj w) es.toList:=by obtain⟨f,e⟩:=h;intro x hx;rw[e]at hx;obtain⟨k,hk,rfl⟩:=Zg1;refine⟨⟨(k:Int),ZjP,(acV (Es.mp hk).1).symm⟩,rfl⟩
theorem ar5{Q:Zne}{k:Nat}{t:Tok}(hm:m<256)(hk:k<8)(he:mH es m)(x:ZcS (cH m led))
  (hQ:∀h' lG mm b,Zh7 h'->mH lG (m|||1<<<k)->j_ h' a lG mm Zl1->Q b {s with heap:=h'}):
  wpAny Y5 A (setAddHashed a (.int k t) (hashInt (k:Int))) Q E s:=by
 obtain⟨o,ho,hex,hd⟩:=id x;have vj:=he.els;have Fj:=Nt led hm;have hf:(cH m led).fits es.size=true:=by rw[vj.1];exact Fj
 have kH:=aqb (prog:=prog) (w:=w) he;have h8:(bO m).length <=8:=by unfold bO;exact Zbc
 have hb:es.size<scanBound:=by rw[vj.1];unfold scanBound;omega
 unfold setAddHashed setAddHashedIn;refine nN (aj (ZjT ?_));ext i;rw[byScan_of (knd:=Zdj w) (x:=.int k t) rfl hb kH];simp only[↓reduceIte];unfold setAddByScan;refine aj (aj (Hy (aj (wpAny_setScan_of (knd:=Zdj w) (k:=(k:Int)) ZjP ho hd hf kH ?_))));obtain⟨f,ef⟩:=id he;cases oF:m.testBit k with
 |true=>
  have ano:∃j,es.toList.findIdx? Zlt=some j:=by
   cases hr:es.toList.findIdx? Zlt with
   |some j=>exact⟨j,rfl⟩
   |none=>
    have:=ato.mp hr (el f k) (by rw[ef];exact aN.mpr ⟨k,Es.mpr ⟨hk,oF⟩,rfl⟩);rw[show(Zdj w).is (k:Int) (el f k).2=true from ZjP]at this;cases this
  obtain⟨j,hj⟩:=ano;rw[hj];have em:m|||1<<<k=m:=by
   refine Ci λi=>?_;rw[G3,aeU,Nat.one_mul,aeT];by_cases e:k=i
   ·subst e;simp[oF]
   ·simp[e]
  refine aL Ys;have:=hQ s.heap es ep false (Heap.SameBut.refl a s.heap) (by rw[em];exact he) (by rw[em];exact x);ext d
 |false=>
  have amN:es.toList.findIdx? Zlt=none:=by
   rw[ato];intro y hy;rw[ef]at hy;obtain⟨j,hj,rfl⟩:=aN.mp hy;have hjk:j≠k:=λe=>by have:=(Es.mp hj).2;rw[e,oF]at this;cases this
   show Value.isInt (k:Int) (Value.int (j:Int) (f j))=false;unfold Value.isInt;simp;omega
  rw[amN];have st:=ahg (led:=led) hm hk oF;have ly:es.size=(bO m).length :=vj.1;have amA:um m k<=es.size:=by rw[ly];unfold um;exact List.countP_le_length
  obtain⟨dI,acO⟩:∃dI,dI=Zym (um m k) ((k:Int),Zoc t):=Zs;have cX:dI.toList=(bO (m|||1<<<k)).map ZtM:=by
   rw[acO,amb _ _ _ amA,ef,st.mem,aa9];have e1:(bO m).map (el f)=(bO m).map ZtM:=by
    refine gv λj hj=>?_;have hjk:j≠k:=λe=>by have:=(Es.mp hj).2;rw[e,oF]at this;cases this
    unfold el;ext i;rw[ae hjk]
   rw[e1];congr 1;unfold el;ext i;rw[af rfl]
  have va:dI.size=(bO m).length +1:=by rw[←oY,cX,aq,st.len]
  have adD:mH dI (m|||1<<<k):=⟨_,cX⟩;have hL:layNew (cH m led) es (hashInt (k:Int)) (.int k t)=(dI,ZjQ,false,false):=by
   unfold layNew;rw[acV hk,st.free];ext i;rw[st.put];ext i;rw[←acO];have:(fW m k led).fits dI.size=true:=by rw[va];exact st.fits
   unfold SetTable.orStandIn;rw[this];rfl
  ext i;rw[hL];ext i;refine Zs0;rw[af (show(fW m k led).plain =true from rfl)];refine aj (show YC (pure true) _ E s from Ys);simp only[↓reduceIte];have fF:dI.size<=sizeLine:=by rw[va];have:sizeLine=16777216:=rfl;omega
  refine aj (wpAny_storeSet_of ho hd ?_ fF);have x9:(s.heap.update a ZhD).get? a=some {o with data:=.set dI (ep+1) (fW m k led)}:=by have:=zu ZhD ho (by rw[Kb dI _ hd];rfl);rw[Kb dI _ hd]at this;exact this
  have Tn:=wx s.heap a ZhD;have yb:=st.lay;have L6:(cH (m|||1<<<k) led).fits dI.size=true:=by rw[va,←st.len];exact Nt led (aaC hm hk)
  by_cases Fi:(fW m k led).tooFull =true
  ·rw[af Fi]at yb;have hR:relayAll ZjQ dI (SetTable.grown dI.size)=(dI,Zl1,false):=by
    unfold relayAll;have e1:dI.map Zg=((bO (m|||1<<<k)).map λ(i:Nat)=>(i:Int)).toArray :=by apply af2.mp;rw[Array.toList_map,cX,bz];rfl
    rw[e1,va,yb];ext i;have e2:(Array.range Zah).filterMap (dI[·]?)=dI:=by rw[←va];apply af2.mp;rw[Array.toList_filterMap,Array.toList_range];have:=TV dI.toList;rw[oY]at this;simpa using this
    have e3:coversAll (Array.range Zah) Zah=true:=by unfold coversAll;rw[List.isPerm_iff];simp
    rw[e2,e3,L6];rfl
   rw[af (by rw[Fi];rfl),hR];ext i;refine aj (show YC (pure ()) _ E _ from Ys);refine aj (wpAny_storeSet_of x9 rfl (aL Ys) fF);have LI:((s.heap.update a ZhD).update a ZxG).get? a=some {o with data:=.set dI (ep+1+1) (cH (m|||1<<<k) led)}:=by have:=zu ZxG x9 (by rw[Zsz _ rfl];rfl);rw[Zsz _ rfl]at this;exact this
   exact hQ _ dI (ep+1+1) true (Tn.trans (wx _ a _)) adD ⟨_,LI,hex,rfl⟩
  ·rw[ae Fi]at yb;rw[ae (by simpa using Fi)];refine aL Ys;refine hQ _ dI (ep+1) true Tn adD ⟨_,x9,hex,?_⟩;rw[yb]
end
end
section
set_option maxHeartbeats 3200000
def gP(val:UM):Nat->Nat
 |0=>0
 |i+1=>Vs i|||1<<<val i
theorem KO(val:UM):∀i,(∀j,j<i->val j<8)->Vs i<256
 |0,_=>(show(0 :Nat)<256 by decide)
 |i+1,h=>aaC (KO val i λj hj=>h j Zb) (h i Zb)
theorem aqa:mH #[] 0:=⟨λ_=>0,by rw[show bO 0=[] by decide];rfl⟩
section
variable {prog:Program}{w:World}{A:Around}{E:Zt}{s:Shared}
abbrev rN(w:World):Bool:=!w.params.followText "set-order"
abbrev pJ(w:World):Obj:={cls:=ZfC,dict:=none,data:=.set #[] 0 (.fresh 0 0 Zeo)}
theorem aqG(a:Value){Q1:Zt}(h:Q1 Yn {s with heap:=s.heap.push (pJ w)}):codeAny Y5 A (.call Zwk ZmC) (wants Q1 E) s:=by
 refine ad4 ?_;show ZaF (do checkBuiltinCall "set.__new__" ZmC;again (Zwk ZmC)) _ _ s;refine aj (CB (PySem.F.newCall_set_1 a) (aL ⟨plainId_quiet PySem.F.plain_set_new _,yR PySem.F.entry_set_new ?_⟩));rw[PK PySem.F.plain_set_new _];unfold Builtin.«set.__new__» Builtin.Frozenset.newClass;have hs8:=sub_set_self;ext bp;ext i
 wp_walk
 refine P2 Ys;ext i;simp only[newObj];exact aj (wpAny_alloc Zqq)
theorem alj{R:Zh3}{I S:Addr}{fp wr:Zy}{n:Nat}{P:Nat->Value->Prop}{St:Ziz}(W:Walks prog w A.in1 I fp wr n P St)(Fq:S∉fp)(val:UM)(amn:∀i v,P i v->∃t,v=Zoq t)(h8:∀i,i<n->val i<8)
  (led:Bool):∀(k i:Nat) (s:Shared),n-i=k->i<=n->St i s.heap->(∃es ep,mH es (Vs i)/\j_ s.heap S es ep (cH (Vs i) led))->
   (∀h' tk,(∀b o,b≠S->b∉wr->s.heap.get? b=some o->h'.get? b=some o)->(∃es ep,mH es (Vs n)/\j_ h' S es ep (cH (Vs n) led))->R Zyg {s with heap:=h',toks:=tk})->
   codeAny Y5 A (.builtin "set.update.loop" ⟨[.ref S,.ref I],[]⟩) R s:=by
 have hSw:S∉wr:=λh=>Fq (W.sub _ h);intro k
 induction k with
 |zero=>
  intro i s hk hi aT hS hR;have iI:i=n:=by omega
  subst iI;ext ch;refine aj (W.done s _ _ aT λh' tk oB=>?_);show ZaF (ret Value.none) _ _ _;obtain⟨es,ep,e1,o,e2,e3⟩:=hS;exact aL (hR h' tk (λb o hb hw e=>oB b o hw e) ⟨es,ep,e1,o,oB S o hSw e2,e3⟩)
 |succ k ih=>
  intro i s hk hi aT hS hR;have bG:i<n:=by omega
  ext ch;refine aj (Zpf bG aT λv h1 zH hP amw gT=>?_);obtain⟨t,rfl⟩:=amn i v hP;obtain⟨es,ep,e1,o,e2,e3⟩:=hS;show ZaF (holding [Value.int (val i:Int) t] (setAdd S (Zoq t))>>= _) _ _ _;refine aj (nN ?_);unfold setAdd;refine nN (aj ((Zdj w).pyHash (k:=(val i:Int)) ZjP ?_));refine ar5 (s:={s with heap:=h1,toks:=zH+1}) (led:=led) (KO val i λj hj=>h8 j Zb) (h8 i bG) e1 ⟨o,gT S o hSw e2,e3⟩ λh2 es2 ep2 b sb e4 e5=>?_;refine aL ⟨plainId_quiet aeL _,ih XG _ Zb bG (W.frame _ _ _ amw λc hc o' e=>?_) ⟨es2,ep2,e4,e5⟩ λh3 tk3 LX hS3=>?_⟩
  ·exact sb.extBut c o' (λq=>Fq (q▸hc)) e
  ·exact hR h3 tk3 (λc o' hc hw e=>LX c o' hc hw (sb.extBut c o' hc (gT c o' hw e))) hS3
theorem ard{l:Addr}{items:YN}{Q:Zt}(hh:Vc)(hl:Zfp items)(val:UM)(hv:∀(i:Nat) v,items[i]? =some v->∃t,v=Zoq t)(h8:∀i,i<items.size->val i<8)
  (h:∀(h':Heap) (tk:Nat),(∃es ep,mH es Zog/\Zry)->(∀b o,b<s.heap.objs.size->s.heap.get? b=some o->h'.get? b=some o)->Q Yn {s with heap:=h',toks:=tk}):
  wpAny Y5 A (call ZfC [.ref l]) Q E s:=by
 obtain⟨c,tl,amV⟩:=vX.mro;have amY:=vX.made;have gj:=vX.sub;refine CC (ad4 ?_);show Ue _ (callAny ZfC _) _ _ _;refine aL ⟨afW _ ZT,yR PySem.F.entry_type_call ?_⟩;rw[Around.under_plain (weight_type_call_type "set" [.ref l] []) rfl];have h1:=vX.notType;have h2:=vX.canCreate;have hct:=PySem.F.typeCall_set_1 Z5
 repeat(any_goals(first |assumption|wp_step))
 refine vK (aqG Z5 (E:=E) (Q1:=λobj s1=>obj=.ref s.heap.objs.size/\s1={s with heap:=s.heap.push (pJ w)}) Uy) λr s1 hr=>?_;cases r with
 |error e=>exact hr
 |ok fl=>
  cases fl with
  |ret obj=>
   ext aB;have hS:(s.heap.push Zem).get? s.heap.objs.size=some Zem:=dj _ rfl;have hT:Shared.TypeIs {s with heap:=s.heap.push (pJ w)} Yn "set":=⟨_,hS,rfl⟩;have hli:=vX.init.lookup;have hbi:=vX.init.bind Yn
   repeat(any_goals(first |assumption|wp_step))
   refine vK (ad5 (R:=wants (λr s2=>r=.none /\∃h' tk,s2={s with heap:=h',toks:=tk}/\(∃es ep,mH es Zog/\Zry)/\
     (∀b o,b<s.heap.objs.size->s.heap.get? b=some o->h'.get? b=some o)) E) vX.init.plain PySem.F.entry_set_init (check_set_init_1 hT ?_)) λr2 s2 gR=>?_
   ·obtain⟨⟨atN,aky,atM,aiH⟩,pT,kI,nl,hdl⟩:=id hl;simp only at kI hdl;subst kI hdl;have amK:(s.heap.push Zem).get? l=some {cls:=Yg,dict:=aky,data:=.seq items nl,slots:=aiH}:=cV _ pT;have auQ:=PySem.F.sub_list_set;have auR:=PySem.F.sub_list_frozenset;have aK:(Value.type "list"==Value.type "dict")=false:=by decide
    have cX:(s.heap.push Zem).IsList l items:=⟨_,amK,rfl,nl,rfl⟩;unfold Builtin.«set.__init__» noKeywords Builtin.Frozenset.updateFrom;generalize hPI:pyIter=PI
    wp_walk
    subst hPI;refine qD cX (aj (wpAny_runValue ?_));have hlS:l<s.heap.objs.size:=bT pT;have hh3:A.in1.in1.in1.handled=none:=by simp[hh]
    have amR:l≠(s.heap.push Zem).objs.size :=by rw[gb];exact eB (Cg hlS)
    have Fq:s.heap.objs.size∉[(s.heap.push Zem).objs.size,l]:=by rw[gb];simp only[aJ,mw,lU,not_or];exact⟨eB (Cf _),oR hlS⟩
    refine alj (Walks.list hh3 _ l amR items) Fq val (λi v hi=>hv i v hi) h8 Zeo (items.size-0) 0 _ Zb ZI ⟨ZcF,cX.push _⟩ ⟨#[],0,aqa,_,cV _ hS,⟨rfl,rfl,rfl⟩,?_⟩ λh' tk oB yl=>?_
    ·show Data.set #[] 0 (SetTable.fresh 0 0 Zeo)=Data.set #[] 0 (cH 0 Zeo);rw[aos]
    ·show Ue A.in1.in1 (pure ()) _ _ _;refine Ys;show Ue A.in1.in1 (ret Value.none) _ _ _;refine aL ⟨rfl,h',tk,rfl,yl,λb o hb e=>?_⟩;refine oB b o (eB hb) ?_ (cV _ XY);rw[bo,gb];exact eB (Cg hb)
   ·cases r2 with
    |error e=>exact gR
    |ok fl2=>
     cases fl2 with
     |ret r=>
      obtain⟨rfl,h',tk,rfl,yl,oB⟩:=gR
      repeat(any_goals(first |assumption|wp_step))
      exact h _ _ yl oB
     |_=>exact gR.elim
  |_=>exact hr.elim
end
end
section
set_option maxHeartbeats 3200000
theorem aa5(val:UM):∀(n k:Nat),(Vs n).testBit k=true↔∃i,i<n/\val i=k
 |0,k=>by
  ext b
  ·intro h;rw[show Vs 0=0 from rfl,G2]at h;cases h
  ·rintro⟨i,hi,_⟩;exact absurd hi (OU _)
 |n+1,k=>by
  rw[show Vs Wi=Vs n|||1<<<val n from rfl,G3,h_,aa5 val n k,aeU,Nat.one_mul,aeT];simp only[bX];ext b
  ·rintro(⟨i,hi,e⟩|e)
   ·exact⟨i,Zb,e⟩
   ·exact⟨n,Zb,e⟩
  ·rintro⟨i,hi,e⟩;by_cases h:i=n
   ·subst h;exact .inr e
   ·exact .inl ⟨i,Zb,e⟩
def e_(rs:Za):Za:=(List.range 8).filter λk=>rs.contains k
theorem ak6(rs:Za)(h:∀r∈rs,r<8):bO ZeB=e_ rs:=by
 unfold bO e_;refine nH λk _=>?_;rw[iS,aa5,bx,zj];constructor
 ·rintro⟨i,hi,e⟩;refine⟨i,hi,?_⟩;rw[jN,fP hi]at e;exact e
 ·rintro⟨i,hi,e⟩;refine⟨i,hi,?_⟩;rw[jN,fP hi];exact e
theorem NL(rs:Za):(e_ rs).Pairwise Vf:=by unfold e_;exact afQ _ O5
section
variable {X:Cx}
def zS(w:World)(a:Addr)(rs:Za):HO:=.ext λh=>∃es ep,mH es ZeB/\j_ h a es ep (cH ZeB Zeo)
theorem arc(K:PySem.W.Frag)(hK:X.K=K:=by rfl)(hc:X.calm=true:=by rfl):YR ZfC (λxs H Q=>∃(p:Addr) (rs:Za),xs=[V.ref p]/\XD p (nats rs)/\(∀r∈rs,r<8)/\∀l,H l=none->ZY (WE (zS X.w l rs))):=by
 subst hK;ext z;obtain⟨p,rs,rfl,hq,h8,q⟩:=h;obtain⟨u,rfl,ru⟩:=o6 r;cases ru
 obtain⟨its,rv,pl,hz⟩:=UL;have hlen:=rv.length;rw[bA]at hlen;refine ard (A:=X.A) (items:=its.toArray) YV pl.isList ZnD (λi v hv=>?_) (λi hi=>?_) λh' tk hS hk=>?_
 ·have ig:its[i]? =some v:=by simpa using hv
  have hi:i<rs.length:=by have:=(iQ.mp ig).1;omega
  obtain⟨u,eu,ru⟩:=rv.get (show(nats rs)[i]? =some (nat (rs.getD i 0)) by unfold nats;rw[cx,jN,fP hi];rfl)
  rw[ig]at eu;cases eu
  exact ru
 ·have L0:i<rs.length:=by rw[dR]at hi;omega
  show rs.getD i 0<8;rw[jN,fP L0];exact h8 _ (afw L0)
 ·rw[dR,←hlen]at hS;have hn:H s.heap.objs.size=none:=X4;refine⟨Yn,Wl (zS X.w s.heap.objs.size rs),ZoO (λb o e=>hk b o YZ e) ZA ⟨hS,?_,?_⟩,rfl,q _ hn⟩
  ·obtain⟨es,ep,_,o,ho,_⟩:=hS;exact⟨o,ho⟩
  ·rintro h1 h2 ⟨es,ep,e1,o,ho,e2⟩ k;exact⟨es,ep,e1,o,k o ho,e2⟩
theorem ara(hc:X.calm=true:=by rfl):YR Znb (λxs H Q=>∃(p:Addr) (rs:Za),xs=[V.ref p]/\H p=some (zS X.w p rs)/\(∀r∈rs,r<8)/\∀l,H l=none->ZY (WE (.lst Zo3))):=by
 ext z;obtain⟨p,rs,rfl,hp,h8,q⟩:=h;obtain⟨u,rfl,ru⟩:=o6 r;cases ru
 obtain⟨⟨es,ep,e1,x⟩,_,_⟩:=ZgW hp;have hm:gP ZnD rs.length<256:=KO _ _ λj hj=>by show rs.getD j 0<8;rw[jN,fP hj];exact h8 _ (afw hj)
 have vj:=e1.els;have hf:(cH ZeB (rN X.w)).fits es.size=true:=by rw[vj.1];exact Nt _ hm
 have lA:(bO ZeB).length <=8:=by unfold bO;exact Zbc
 have hsz:sizeLine=16777216:=rfl;obtain⟨f,ef⟩:=id e1;have acw:=aaB X.w p ep es;refine aho (A:=X.A) (ahh (prog:=X.prog) (w:=X.w) (a:=p) (ep:=ep) hm vj hf) YV x (by rw[vj.1];omega) Zr6 (λi v hv=>?_) λh' tk D vs ns c hk hD Fg hI ly amx=>?_
 ·obtain⟨e,he,rfl⟩:=hv;have hem:e∈es.toList:=acw.mem_iff.mp (by rw[Array.mem_toList_iff];exact Array.mem_of_getElem? he);rw[ef]at hem;obtain⟨k,hk,rfl⟩:=aN.mp hem;refine⟨f k,?_⟩;simp only[he];rfl
 ·have e0:(List.range es.size).map Zr6=(iB X.w p ep es).toList.map Zg:=by
   rw[←Ko X.w p ep es];refine List.ext_getElem Zh λi h1 h2=>?_;have hi:i<(iB X.w p ep es).size :=by simpa using h1
   simp[hi]
  rw[e0]at ly;have e2:es.toList.map Zg=(e_ rs).map λ(k:Nat)=>(k:Int):=by rw[ef,bz,ak6 rs h8];rfl
  have dP:=ly.trans (acw.map Zg);rw[e2]at dP;have EU:((e_ rs).map λ(k:Nat)=>(k:Int)).Pairwise (· <=·):=by rw[List.pairwise_map];exact(NL rs).imp λh=>by omega
  have vc:ns=(e_ rs).map λ(k:Nat)=>(k:Int):=PySem.W.ksm_same dP amx EU;subst vc;have hrv:Vals Zo3 vs:=by have:=L2.P9 hI;rw[bz]at this;exact this
  have hl:(nats (e_ rs)).length <=sizeLine:=by rw[bA];unfold e_;exact WO (by rw[eM];omega)
  exact⟨Vh,ZH D (.lst Zo3),ZoO hk hD ⟨hl,vs,c,hrv,Fg⟩,rfl,q D (I.aC.fresh hD)⟩
end
end
local macro_rules | `(tactic| simp! [$xs,*]) => `(tactic| simp only [nR, tN, pf, mL, kR, ux, qX, tP, qM, tU, kS, tM, mN, kK, mM, tD, tG, wN, tC, tB, tX, tJ, tK, tW, tI, wO, tO, qI, tT, qL, qJ, qZ, qY, uu, rg, rh, jk, rI, uA, uf, tQ, mQ, uq, uv, tV, vA, uw, uz, ur, nS, pj, qH, tF, qW, tH, tL, wQ, wU, rV, rT, rW, u4, rS, uZ, tu, qN, rR, tw, rU, tE, qV, tS, tR, wV, nT, ph, qK, vC, vB, Nat.succ_eq_add_one, sG, uc, w9, w_, w8, V.str.injEq, ua, uH, lY, xO, yM, fold_succ, List.set_cons_zero, List.set_cons_succ, List.getElem?_cons_zero, List.getElem?_cons_succ, Option.some.injEq, exists_eq_left', exists_eq_left, exists_and_left, and_assoc, true_and, and_true, V.bl.injEq, HO.lst.injEq, HO.ins.injEq, HO.tup.injEq, V.ref.injEq, V.int.injEq, decide_true, decide_false, if_true, if_false, List.cons.injEq, Bool.false_eq_true, au, jh, exists_const, exists_eq', exists_eq, and_self, List.append_nil, List.nil_append, List.cons_append, List.append_assoc, L2.start, List.map_cons, List.map_nil, List.length_cons, List.length_nil, Nat.zero_add, Nat.reduceAdd, Nat.reduceSub, List.replicate_succ, List.replicate_zero, wipe, $xs,*])
section
open Vbwbal (text rolesOf indexOf isName)
abbrev ae2:Zc:=["plan","names","name"]
theorem R5:aV ae2 Gr (aA Dm):=Zl
def fS(P:Plan)(n:Bytes):Nat:=P.roles.findIdx λy=>y==n
def QR(A:Ad):Sp:=λvs H Q _=>∃(p a:Addr) (i:aW) (P:Plan) (ws:Zz),vs=[.ref p,.ref a]/\H p=some (Zf1 i.dx (mU i))/\H i.r=some ZeY/\P.roles.length<=8/\H a=some VD/\(∀n∈ws,n∈P.roles)/\ws.length<=5000/\
 ∀(H':Hp) (l:Addr),Zd->H l=none->H' l=some Zwl->ZY H'
theorem JY{P:Plan}{n:Bytes}(h:n∈P.roles):Wh n<P.roles.length:=Hc ⟨n,h,Zh⟩
theorem C_:∀{l m:Za},Zc9->m.Pairwise Vf->(∀x,x∈l↔x∈m)->l=m
 |[],[],_,_,_=>rfl
 |[],b::m,_,_,h=>absurd ((h b).mpr aY) Zh
 |a::l,[],_,_,h=>absurd ((h a).mp aY) Zh
 |a::l,b::m,hl,hm,h=>by
  obtain⟨cX,bH⟩:=Ck.mp hl;obtain⟨hm1,hm2⟩:=Ck.mp hm;have dc:a=b:=by
   rcases aJ.mp ((h a).mp aY)with e|e
   ·exact e
   ·rcases aJ.mp ((h b).mpr aY)with e'|e'
    ·exact e'.symm
    ·have:=cX b e';have:=hm1 a e;omega
  subst dc;congr 1;refine C_ bH hm2 λx=>?_;constructor
  ·intro hx;rcases aJ.mp ((h x).mp ZaS)with e|e
   ·have:=cX x hx;omega
   ·exact e
  ·intro hx;rcases aJ.mp ((h x).mpr ZaS)with e|e
   ·have:=hm1 x hx;omega
   ·exact e
theorem uX(x:Nat):∀(l:Za) (y:Nat),y∈ZcP l↔y=x∨y∈l
 |[],y=>by simp[Vbwbal.insert]
 |a::l,y=>by
  unfold Vbwbal.insert;split
  ·simp
  ·split
   ·rename_i h;subst h;simp
   ·rw[aJ,uX x l y,aJ];ext b
    ·rintro(h|h|h)
     ·exact ZdP
     ·exact XQ
     ·exact .inr Vq
    ·rintro(h|h|h)
     ·exact ZdP
     ·exact XQ
     ·exact .inr Vq
theorem EL(x:Nat):∀(l:Za),Zc9->(ZcP l).Pairwise Vf
 |[],_=>by simp[Vbwbal.insert]
 |a::l,h=>by
  obtain⟨h1,h2⟩:=Ck.mp h;unfold Vbwbal.insert;split
  ·rename_i hx;refine Ck.mpr ⟨λy hy=>?_,h⟩;rcases aJ.mp hy with e|e
   ·omega
   ·have:=h1 y e;omega
  ·split
   ·exact h
   ·refine Ck.mpr ⟨λy hy=>?_,EL x l h2⟩;rcases(uX x l y).mp hy with e|e
    ·omega
    ·exact h1 y e
theorem NM{rs:Za}(h:∀r∈rs,r<8)(x:Nat):x∈e_ rs↔x∈rs:=by unfold e_;rw[bD,dS,bx];exact⟨λq=>q.2,λq=>⟨h x q,q⟩⟩
theorem TH{P:Plan}(h8:P.roles.length<=8):∀ws:List Bytes,(∀n∈ws,n∈P.roles)->rolesOf P ws=.ok (e_ ZhW)
 |[],_=>by unfold rolesOf;congr 1
 |n::r,h=>by
  have hn:=h n aY;have ih:=TH h8 r λm hm=>h m (ZE hm);have bG:∀m∈n::r,Wh m<8:=λm hm=>hX (JY (h m hm)) h8;have dv:∀x∈(n::r).map Wh,x<8:=λx hx=>by obtain⟨m,hm,rfl⟩:=Zg1;exact bG m hm
  have EV:∀x∈r.map Wh,x<8:=λx hx=>dv x ZaS;unfold rolesOf;have hi:indexOf P.roles n=some (Wh n):=by unfold indexOf;rw[af (bx.mpr hn)];rfl
  rw[hi,ih];show Except.ok (Vbwbal.insert (Wh n) (e_ (r.map Wh)))=Except.ok (e_ ((n::r).map Wh));congr 1;refine C_ (EL _ _ (NL _)) (NL _) λx=>?_;rw[uX,NM EV,NM dv,cw,aJ]
theorem TJ{P:Plan}:∀ws:List Bytes,(∃n∈ws,n∉P.roles)->rolesOf P ws=.error 3
 |[],h=>by obtain⟨n,hn,_⟩:=h;cases hn
 |a::r,h=>by
  unfold rolesOf indexOf;by_cases ha:P.roles.contains a=true
  ·rw[af ha];have:∃n∈r,n∉P.roles:=by
    obtain⟨n,hn,hq⟩:=h;rcases aJ.mp hn with e|e
    ·exact absurd (bx.mp ha) (e▸hq)
    ·exact⟨n,e,hq⟩
   ext i;rw[TJ r this]
  ·rw[ae ha]
section
variable {P:Program}{w:World}{K:PySem.W.Frag}{mg:Zx}{base:Heap}{A:Ad}
theorem ajm{f:Addr}{fd:FuncData}(T:Zm)(F:Zo "role_numbers" "role_numbers" Dm f fd):Z3 Gr (QR A):=by
 have nd:=R5.nd;refine F.ok R5 Zj Zn
 ·obtain⟨p,a,i,P,ws,rfl,_⟩:=h;rfl
 ·obtain⟨p,a,ix,P,ws,rfl,hPi,hPr,wf8,ha,iI,hl,k⟩:=h;ext c;have n1:=Zbr;have dv:∀r∈ws.map Wh,r<8:=λr hr=>by obtain⟨n,hn,rfl⟩:=aN.mp hr;have:=JY (iI n hn);omega
  refine⟨_,(ak (ay (bW ara Vo T.aaZ arK (aa (xo (arc K) Vo T.aa0 arL (aa (dW (own:=[("name",2)]) rfl nd (ZS ZC) (show cB ae2 (aA Dm) _ _ from Yf) Zbf Xc (λ_ _ _ _ _=>(Zmy Xm))) ai)) ai)))),?_⟩;ext a;refine⟨UD,ZuC (λn=>nat (Wh n)) Zbb Zxw⟩
  ·ext o
   have fj:=s1.at hPi;have gX:=s1.at hPr;simp! [fj,T.bU,n1,n0,cQ gX];exact DV gX (iI z Xv) Zc5
  ·have Mm:H1 D=some (.lst (nats ZhW)):=by rw[h,filter_all];unfold nats;rw[bz];rfl
   refine⟨D,rfl,_,ag.of Mm,dv,λl cY=>⟨_,rfl,dv,λl2 bH=>?_⟩⟩;have s2:YH Zxj:=a0 cY;have s3:YH (upd Zxj l2 Zwl):=bV s2 (s2.free bH);exact k _ l2 Zp0 (s1.free (s2.free bH)) au
end
end
section
open Vbwbal (signer load goesWith fits unsigned choiceOf)
abbrev atk:Zc:=["self"]
theorem Tg:aV atk B_ (aA DO):=Zl
abbrev atl:Zc:=["self","number","numbers","text","places"]
theorem Th:aV atl Ca (aA DP):=Zl
abbrev atg:Zc:=["self","plan"]
theorem Tc:aV atg B8 (aA DK):=Zl
def mq(r:V):Y6:=[("record",r)]
theorem NP(r:V):(mq r).lookup ("record":Str)=some r:=rfl
def qj(n l t p:V):Y6:=[("number",n),("numbers",l),("text",t),("places",p)]
theorem aec(n l t p:V):(qj n l t p).lookup ("number":Str)=some n:=rfl
theorem vN(n l t p:V):(qj n l t p).lookup ("numbers":Str)=some l:=rfl
theorem N6(n l t p:V):(qj n l t p).lookup ("text":Str)=some t:=rfl
theorem art(n l t p:V):(qj n l t p).lookup ("places":Str)=some p:=rfl
def Rg(A:Ad):Sp:=λvs H Q _=>∃(x dx:Addr),vs=[.ref x]/\H x=some (ZbK dx [])/\Q .ba (V8 (ZbK dx (mq .ba)))
def IF(A:Ad):Sp:=λvs H Q _=>∃(x dx:Addr) (a b c d:V),vs=[.ref x,a,b,c,d]/\H x=some (Zf0 dx [])/\Q .ba (V8 (Zf0 dx (qj a b c d)))
theorem SameBut.ah2{n:Addr}{H H1:Hp}{l:Addr}{o:HO}(s:WW H H1)(hn:H l=none)(nx:NX (H1 l)):WW H (Yr l o):=by
 refine⟨λb u hb t e=>?_,λb ps e=>?_,λP h=>?_⟩
 ·rw[ax ZbV];exact s.keep b u hb t e
 ·rw[ax ZbV];exact ZgL e
 ·ext cq;refine⟨ps,by rw[ax (cg h0 hn)];exact h1,h2,λpos cv e=>?_⟩;ext bX
theorem SameBut.free{n:Addr}{H H':Hp}(e:WW H H'){l:Addr}(hl:l≠n)(h:H' l=Option.none):H l=Option.none:=by
 cases q:H l with
 |none=>rfl
 |some o=>
  exfalso;cases o with
  |b9 ps=>
   ext cO
  |_=>
   have q':=e.at hl q;rw[q']at h;cases h
structure gw(C x dx:Addr)(fs:Y6)(bs:Zat)(H H':Hp):Prop where
 sb:ZgE H H'
 ins:H' x=some Zbn
 fr:∀z∈bs,H z.1=none
 nd:(bs.map Zg).Nodup
 ls:∀z∈bs,H' z.1=some z.2/\z.1≠x
theorem gw.start{C x dx:Addr}{H:Hp}(h:H x=some Zqp):gw C x dx [] [] H H:=⟨BR x H,h,λz hz=>VG,sV,λz hz=>VG⟩
theorem gw.alloc{C x dx:Addr}{fs:Y6}{bs:Zat}{H H':Hp}(I:ZjX){r:Addr}{o:HO}(hr:H' r=none):ZcQ (bs++[(r,o)]) H (Wy r o):=by
 have xV:r≠x:=λe=>by rw[e,I.ins]at hr;cases hr
 have hb:∀z∈bs,z.1≠r:=λz hz e=>by have:=(V3 hz).1;rw[e,hr]at this;cases this
 refine⟨I.sb.same (a0 hr),Zs1,λz hz=>?_,?_,λz hz=>?_⟩
 ·rcases b8.mp hz with q|q
  ·exact I.fr z q
  ·rw[bo.mp q];exact I.sb.free xV hr
 ·rw[cA];refine Eo I.nd λhm=>?_;obtain⟨z,hz,e⟩:=aN.mp hm;exact hb z hz e
 ·rcases b8.mp hz with q|q
  ·refine⟨?_,(V3 q).2⟩;rw[ax (hb z q)];exact(V3 q).1
  ·rw[bo.mp q];exact⟨au,xV⟩
theorem gw.put{C x dx:Addr}{fs fs':Y6}{bs:Zat}{H H':Hp}(I:ZjX):gw C x dx fs' bs H (Wy x (Zca dx fs')):=
 ⟨I.sb.put I.ins,au,I.fr,I.nd,λz hz=>⟨by rw[ax (V3 hz).2];exact(V3 hz).1,(V3 hz).2⟩⟩
theorem gw.re{C x dx:Addr}{fs:Y6}{bs cs:Zat}{r:Addr}{xs:Yb}{o:HO}{H H':Hp}(I:ZcQ (bs++(r,.dK xs)::cs) H H'):ZcQ (bs++(r,o)::cs) H (Wy r o):=by
 have hm:(r,HO.dK xs)∈bs++(r,.dK xs)::cs:=je _ aY;have xV:=(I.ls _ hm).2;have gn:=I.nd;rw[cA,cw]at gn;obtain⟨n1,n2,n3⟩:=mx.mp gn;obtain⟨n4,n5⟩:=df.mp n2;have dB:∀z∈bs++(r,o)::cs,z=(r,o)∨(z∈bs++(r,HO.dK xs)::cs/\z.1≠r):=λz hz=>by
  rcases b8.mp hz with q|q
  ·exact .inr ⟨mz _ q,λe=>n3 z.1 ZwM r aY e⟩
  ·rcases aJ.mp q with q|q
   ·exact Wc
   ·exact .inr ⟨je _ Zd6,λe=>n4 (by show r∈_;rw[←e];exact ZwM)⟩
 refine⟨I.sb.ah2 (I.fr _ hm) (Ej (I.ls _ hm).1),Zs1,λz hz=>?_,?_,λz hz=>?_⟩
 ·rcases dB z hz with q|q
  ·rw[q];exact I.fr (r,.dK xs) hm
  ·exact I.fr z q.1
 ·rw[cA,cw];exact gn
 ·rcases dB z hz with q|q
  ·rw[q];exact⟨au,xV⟩
  ·exact⟨by rw[ax q.2];exact(V3 q.1).1,(V3 q.1).2⟩
theorem gw.get{C x dx:Addr}{fs:Y6}{bs:Zat}{H H':Hp}(I:ZjX)(n:Nat){z:Addr×HO}(h:bs[n]? =some z):H' z.1=some z.2:=(V3 (bI h)).1
theorem gw.avg{C x dx:Addr}{fs:Y6}{bs:Zat}{H H':Hp}(I:ZjX)(n:Nat){z:Addr×HO}(h:bs[n]? =some z):z.1≠x:=(V3 (bI h)).2
theorem dw.but{C C' x dx p:Addr}{i:aW}{P:Plan}{H H':Hp}(s:ZgE H H')(hx:H x=some (.ins C' dx []))(h:ZjH):Zjn:=by have kl:∀b l,H b=some UR->H' b=some UR:=λb l e=>Zth;have kt:∀b l,H b=some (.tup l)->H' b=some (.tup l):=λb l e=>Zth;have rows:∀a ns,Za8 ns->fN H' a ns:=λa ns ⟨rs,h1,h2⟩=>Zln;have mS:∀a ns,U3 ns->g8 H' a ns:=λa ns ⟨rs,h1,h2⟩=>⟨rs,X0 h1,gA (λ_ _ e=>kt _ _ e) h2⟩;exact⟨s.at (λq=>by have e:=h.ins;rw[q,hx]at e;cases e) h.ins,X0 h.roles,ZpH,X0 h.steps,X0 h.eF,s.at (λq=>by have e:=h.pairs;rw[q,hx]at e;cases e) h.pairs,Zd1 h.pr,Zd1 h.sr,Zch h.after,Zql,Zch h.alike⟩
def QT(A:Ad):Sp:=λvs H Q _=>∃(x dx p:Addr) (j:aW) (P:Plan),vs=[.ref x,.ref p]/\H x=some (ZpB dx [])/\ZkI H p j P/\ZF/\
 ∀(H':Hp) (i:bC),i.dx=dx->i.p=p->ZgE H H'->(∀b∈i.aH,H b=none)->i.aH.Nodup->H' x=some (ZpB dx (mR i))->H' i.ab=some (.lst (Zhq ZaE))->H' i.en=some Yh->H' i.sg=some (.lst (ZhB .ba))->Q .ba H'
def QW(A:Ad):Sp:=λvs H Q _=>∃(x dx:Addr),vs=[.ref x]/\H x=some (Zf1 dx [])/\
 ∀(H':Hp) (i:aW),i.dx=dx->ZgE H H'->H' x=some (Zf1 dx (mU i))->H' i.d=some ZpA->(i.d::i.aH).Nodup ->x∉i.d::i.aH->(∀b∈i.d::i.aH,H b=none)->(∀b∈i.aH,H' b=some Yh)->Q .ba H'
section
variable {P:Program}{w:World}{K:PySem.W.Frag}{mg:Zx}{base:Heap}{A:Ad}
theorem aj5{f:Addr}{fd:FuncData}(T:Zm)(F:Zav "Desk.__init__" DO f fd):Z3 B_ (Rg A):=by
 have nd:=Tg.nd;refine F.ok Tg Zj Zn
 ·obtain⟨x,dx,rfl,_⟩:=h;rfl
 ·obtain⟨x,dx,rfl,hx,k⟩:=h;refine⟨_,(ak (UJ uD rfl)),?_⟩;have n1:=Zn9;simp! [hx,T.BK,n1];exact⟨Zk,k⟩
theorem akg{f:Addr}{fd:FuncData}(T:Zm)(F:Zav "Call.__init__" DP f fd):Z3 Ca (IF A):=by
 have nd:=Th.nd;refine F.ok Th Zj Zn
 ·obtain⟨x,dx,a,b,c,d,rfl,_⟩:=h;rfl
 ·obtain⟨x,dx,a,b,c,d,rfl,hx,k⟩:=h;refine⟨_,(ao Zjg
   (ao (UJ ZR rfl)
   (ao (UJ ZG rfl)
   (ak (iY K (pv 0) (pv 4) rfl))))),?_⟩
  have n1:=T.jW "number" ZT;have n2:=ZnN;have n3:=ZoT;have n4:=T.jW "places" ZT;simp! [hx,T.lH,n1,n2,n3,n4];exact Zq2
theorem ajp{f:Addr}{fd:FuncData}(T:Zm)(F:Zav "Record.__init__" DK f fd):Z3 B8 (QT A):=by
 have nd:=Tc.nd;refine F.ok Tc Zj Zn
 ·obtain⟨x,dx,p,j,P,rfl,_⟩:=h;rfl
 ·obtain⟨x,dx,p,j,P,rfl,hx,hP,wf,k⟩:=h;ext c;refine⟨_,(ao Zjg
   (ao (UJ (cR aaG (bh (aa kh ai)) (XI (aa Zc4 ai))) rfl)
   (ao (UJ WU rfl)
   (ak (iY K (pv 0) (cR aaG (bh (aa uD ai)) (bW (c6 K) (by rfl) T.cM cU (aa (aD K (pv 1) rfl) ai))) rfl))))),?_⟩
  ext v;have n2:=ZcR;have n3:=Ul;have n4:=ZcO;have n5:=Zbm;have n6:=Uo;have I0:=gw.start hx;simp! [hx,T.dD,n1];refine⟨Zk,X5,?_⟩;have I1:=I0.put (fs':=[("plan",Zg6)]);obtain⟨H1,fw⟩:∃H1,H1=V8 (ZnI (fh "plan" Zg6 [])):=Zs;rw[←fw];replace I1:gw A.record x dx [("plan",Zg6)] [] H H1:=by rw[fw];exact I1
  intro p1 oz;have I2:=I1.alloc (o:=.lst [.bl false]) oz;obtain⟨H2,fL⟩:∃H2,H2=Yr p1 Zyf:=Zs;rw[←fL]at I2⊢;have gX:=hP.but I2.sb hx;have e2:H2 p1=some Zyf:=I2.get 0 rfl;have jz:=wf.persons;have hs7:=wf.steps;simp! [gX.ins,T.bU,n5,k_,e2];refine⟨P.persons.length,Zsy,Zb,Zb,Zb,?_⟩;rw[mE,show(List.replicate P.persons.length [V.bl false]).flatten =Zhq (V.bl false) by simp];intro p2 dP;have I3:=I2.alloc (o:=ZvX) dP;obtain⟨H3,vv⟩:∃H3,H3=YM p2 ZvX:=Zs;rw[←vv]at I3⊢;refine⟨_,_,_,I3.ins,T.dD,n2,by show(1 :Nat)<1000;decide,ZI,?_⟩;have I4:=I3.put (fs':=fh "absent" (V.ref p2) [("plan",Zg6)]);generalize upd H3 x (ZnI Zra)=H4 at I4⊢;intro p3 jZ;have I5:=I4.alloc (o:=.lst []) jZ;obtain⟨H5,mf⟩:∃H5,H5=U6 p3 Yh:=Zs;rw[←mf]at I5⊢;refine⟨_,_,_,I5.ins,T.dD,n3,by show(2 :Nat)<1000;decide,X5,?_⟩;have I6:=I5.put (fs':=ZuX);generalize upd H5 x (ZnI ZuX)=H6 at I6⊢;intro p4 r9;have I7:=I6.alloc (o:=.lst [.ba]) r9;obtain⟨H7,hH7⟩:∃H7,H7=upd H6 p4 (.lst [.ba]):=Zs;rw[←hH7]at I7⊢;have hP7:=hP.but I7.sb hx;have e7:H7 p4=some (.lst [.ba]):=I7.get 3 rfl;refine⟨_,_,_,hP7.ins,T.bU,n6,_,k0 j,P.steps.length,.inl ⟨_,ag.of hP7.steps,(aq _).symm⟩,?_⟩;simp! [e7];refine⟨Zb,Zb,?_⟩;intro p5 hp5;have I8:=I7.alloc (o:=.lst (ZhB V.ba)) hp5;obtain⟨H8,oH⟩:∃H8,H8=upd H7 p5 (.lst (ZhB V.ba)):=Zs;rw[←oH]at I8⊢;refine⟨_,_,_,I8.ins,T.dD,n4,by show(3 :Nat)<1000;decide,?_⟩;have I9:=I8.put (fs':=mR ⟨dx,p,p2,p3,p5⟩);have gn:=I9.nd;refine k _ ⟨dx,p,p2,p3,p5⟩ rfl rfl I9.sb (λb hb=>?_) ?_ I9.ins (I9.get 1 rfl) (I9.get 2 rfl) (I9.get 4 rfl)
  ·simp only[bC.aH,aJ,mw,lU]at hb;rcases hb with rfl|rfl|rfl
   ·exact I9.fr (b,_) (bI (i:=1) rfl)
   ·exact I9.fr (b,_) (bI (i:=2) rfl)
   ·exact I9.fr (b,_) (bI (i:=4) rfl)
  ·simp only[my,oV,cw,wj,df,aJ,mw,lU,not_or]at gn;simp only[bC.aH,df,aJ,mw,lU,not_or,not_false_eq_true,true_and,yU];obtain⟨_,⟨a1,_,a3⟩,⟨_,a5⟩,_⟩:=gn;exact⟨⟨a1,a3⟩,a5,sV⟩
theorem w6{C x dx:Addr}{fs:Y6}{bs:Zat}{H0 H:Hp}{g:Str}{u:TS}{D:Ends}{σ:L2.St}(I:ZcQ bs H0 H)(hσ:Zw6)(hc:jP K C)(hn:Vx g)(hl:Zps)
  (h:∀p H',gw C x dx (fh g Z6 fs) (bs++[(p,.lst [])]) H0 H'->u D σ H'):nR (mQ K (kR 0) (mM kS) g) u D σ H:=
 ⟨ZI,λp hp=>⟨_,hσ,x,C,dx,fs,rfl,(I.alloc hp).ins,hc,hn,hl,h p _ (I.alloc hp).put⟩⟩
theorem ahB{C x dx:Addr}{fs:Y6}{bs:Zat}{H0 H:Hp}{g:Str}{D:Ends}{σ:L2.St}(I:ZcQ bs H0 H)(hσ:Zw6)(hc:jP K C)(hn:Vx g)(hl:Zps)
  (h:∀d a u l H',gw C x dx (fh g We fs) (bs++[(d,.dK [(.inr "after",ZX),(.inr "unlike",.ref u),(.inr "alike",Z5)]),(a,.lst []),(u,.lst []),(l,.lst [])]) H0 H'->W3 H'):
  mQ K (kR 0) (nT [(tC (.str "after"),mM kS),(tC (.str "unlike"),mM kS),(tC (.str "alike"),mM kS)]) g D σ H:=by
 intro d hd;have I1:=I.alloc (o:=.dK []) hd;refine⟨ZI,λa ha=>?_⟩;have I2:=I1.alloc (o:=.lst []) ha;refine⟨ZI,λu hu=>?_⟩;have I3:=I2.alloc (o:=.lst []) hu;refine⟨ZI,λl cY=>?_⟩;have I4:=I3.alloc (o:=.lst []) cY;simp only[eC,oV,my]at I4;have I5:=I4.re (o:=.dK [(.inr "after",ZX),(.inr "unlike",.ref u),(.inr "alike",Z5)]);refine⟨(I4.ls (d,.dK []) (je _ aY)).1,[(.inr "after",ZX),(.inr "unlike",.ref u),(.inr "alike",Z5)],rfl,by show(3 :Nat)<=15;decide,?_⟩;exact⟨_,hσ,x,C,dx,fs,rfl,I5.ins,hc,hn,hl,h d a u l _ I5.put⟩
end
end
section
open Vbwbal (signer load goesWith fits unsigned choiceOf)
abbrev ath:Zc:=["self"]
theorem Td:aV ath B9 (aA DL):=Zl
theorem aiy{X:Cx}{pos:Pos}{k1 k2 k3 v1 v2 v3:Expr}{a1 a2 a3 b1 b2 b3:TE}(h1:Zu k1 a1)(g1:Zu v1 b1)(h2:Zu k2 a2)(g2:Zu v2 b2)(h3:Zu k3 a3)(g3:Zu v3 b3):
  PE X (.Dict [some k1,some k2,some k3] [v1,v2,v3] pos) (nT [(a1,b1),(a2,b2),(a3,b3)]):=
 aau (DW h1 g1 (DW h2 g2 (DW h3 g3 aaa))) rfl rfl (afL _ _) (by show(3 :Nat)<=15;decide)
@[irreducible] def QS(X:Cx)(s:Stmt)(t:TS):Prop:=PS X s t
@[irreducible] def vV(X:Cx)(s:WV)(t:TS):Prop:=jb X s t
theorem uB{X:Cx}{o value:Expr}{ta tv:TE}{f:Str}{pos pos':Pos}(K:PySem.W.Frag)(ha:Zu o ta)(hv:ZjE)(hs:Zk7)(hK:X.K=K:=by rfl):QS X ZlG (mQ K ta tv f):=by unfold QS;exact iY K ha hv hs hK
theorem xk{X:Cx}{s:Stmt}{r:WV}{t u:TS}(h1:QS X s t)(h2:vV X r u):vV X Za3 (nR t u):=by unfold QS at h1;unfold vV at h2⊢;exact ao h1 h2
theorem ah1{X:Cx}{s:Stmt}{t:TS}(h1:QS X s t):vV X [s] t:=by unfold QS at h1;unfold vV;exact ak h1
theorem ah0{X:Cx}{s:WV}{t:TS}(h:vV X s t):jb X s t:=by unfold vV at h;exact h
section
variable {P:Program}{w:World}{K:PySem.W.Frag}{mg:Zx}{base:Heap}{A:Ad}
theorem aju{f:Addr}{fd:FuncData}(T:Zm)(F:Zav "Plan.__init__" DL f fd):Z3 B9 (QW A):=by
 have nd:=Td.nd;refine F.ok Td Zj Zn
 ·obtain⟨x,dx,rfl,_⟩:=h;rfl
 ·obtain⟨x,dx,rfl,hx,k⟩:=h;ext c;refine⟨_,ah0 (xk ZcJ
   (xk ZcJ
   (xk ZcJ
   (xk ZcJ
   (xk ZcJ
   (xk ZcJ
   (ah1 (uB K (pv 0) (aiy cW (bh ai) cW (bh ai) cW (bh ai)) rfl)))))))),?_⟩
  ext bH;refine w6 (gw.start hx) rfl T.bU n1 (by show(0 :Nat)<1000;decide) λp1 H1 I1=>?_;refine w6 I1 rfl T.bU n2 (by show(1 :Nat)<1000;decide) λp2 H2 I2=>?_;refine w6 I2 rfl T.bU n3 (by show(2 :Nat)<1000;decide) λp3 H3 I3=>?_;refine w6 I3 rfl T.bU n4 (by show(3 :Nat)<1000;decide) λp4 H4 I4=>?_;refine w6 I4 rfl T.bU n5 (by show(4 :Nat)<1000;decide) λp5 H5 I5=>?_;refine w6 I5 rfl T.bU n6 (by show(5 :Nat)<1000;decide) λp6 H6 I6=>?_;refine ahB I6 rfl T.bU n7 (by show(6 :Nat)<1000;decide) λd a u l H7 I7=>?_;simp only[my,oV,eC]at I7;have gn:=I7.nd;simp only[cw,wj]at gn;have gj:∀b∈[d,p1,p2,p3,p4,p5,p6,a,u,l],b∈[p1,p2,p3,p4,p5,p6,d,a,u,l]:=λb hb=>by simp only[aJ,mw,lU]at hb⊢;rcases hb with h|h|h|h|h|h|h|h|h|h<;>simp only[h,true_or,or_true]
  have iI:∀b∈[p1,p2,p3,p4,p5,p6,d,a,u,l],∃o,(b,o)∈[(p1,HO.lst []),(p2,.lst []),(p3,.lst []),(p4,.lst []),(p5,.lst []),(p6,.lst []),(d,.dK [(.inr "after",ZX),(.inr "unlike",.ref u),(.inr "alike",Z5)]),(a,.lst []),(u,.lst []),(l,.lst [])]:=λb hb=>by obtain⟨z,hz,e⟩:=aN.mp (show b∈[(p1,HO.lst []),(p2,.lst []),(p3,.lst []),(p4,.lst []),(p5,.lst []),(p6,.lst []),(d,.dK [(.inr "after",ZX),(.inr "unlike",.ref u),(.inr "alike",Z5)]),(a,.lst []),(u,.lst []),(l,.lst [])].map Zg from hb);exact⟨z.2,by rw[←e];exact hz⟩
  refine k H7 ⟨dx,p1,p2,p3,p4,p5,p6,d,a,u,l⟩ rfl I7.sb I7.ins (I7.get 6 rfl) ?_ ?_ ?_ ?_
  ·show[d,p1,p2,p3,p4,p5,p6,a,u,l].Nodup;exact(List.Perm.nodup_iff (List.perm_middle (l₁:=[p1,p2,p3,p4,p5,p6]) (a:=d) (l₂:=[a,u,l]))).mp gn
  ·intro hm;obtain⟨o,ho⟩:=iI x (gj x hm);exact(I7.ls _ ho).2 rfl
  ·intro b hb;obtain⟨o,ho⟩:=iI b (gj b hb);exact I7.fr _ ho
  ·intro b hb;have:(b,HO.lst [])∈[(p1,HO.lst []),(p2,.lst []),(p3,.lst []),(p4,.lst []),(p5,.lst []),(p6,.lst []),(d,.dK [(.inr "after",ZX),(.inr "unlike",.ref u),(.inr "alike",Z5)]),(a,.lst []),(u,.lst []),(l,.lst [])]:=by simp only[aW.aH,aJ,mw,lU]at hb;simp only[aJ,mw,lU,OA,yU,reduceCtorEq,and_false];rcases hb with h|h|h|h|h|h|h|h|h<;>simp only[h,true_or,or_true]
   exact(I7.ls _ this).1
end
end
section
open PySem.W (WData Codec OpenSpec Well WellAll ReadsW ReadsAllW)
mutual
theorem aqd{K:PySem.W.Frag}{H H':Hp}(sL:ZsU)(sT:ZsV):∀{v:V} {d:WData},Dw K H v d->Dw K H' v d
 |_,_,.ba =>.ba
 |_,_,.bl b=>WA
 |_,_,.int i=>Xs
 |_,_,.str x=>U0
 |_,_,.gr b=>.gr b
 |_,_,.lst h1 h2=>.lst (sL h1) Zpd
 |_,_,.tup h1 h2=>.tup (sT h1) Zpd
theorem FQ{K:PySem.W.Frag}{H H':Hp}(sL:ZsU)(sT:ZsV):∀{vs:Ze} {ds:Wt},Zcs vs ds->ke K H' vs ds
 |_,_,.nil =>.nil
 |_,_,.cons h1 h2=>.cons (aqd sL sT h1) Zpd
end
theorem aq8{P:Program}{w:World}{K:PySem.W.Frag}{mg mb:Zx}{k:Nat}{fa c Pt:Addr}{fd:FuncData}{ps:Zc}{sp:Sp}{s₁:Shared}{vals:Zq}{ds:Wt}{R:PySem.W.WRecords}{cl:Str->Ws}{d0:WData}
  (KX:K.In s₁.heap) (vc:s₁.heap.Ns mainGlobals mg) (hb:s₁.heap.Ns builtinsNs mb) (hbb:∀x:Str,x≠"__name__"->mb x=bootBuiltins x) (am4:s₁.heap.NoLimit) (hg:s₁.gens= #[])
  (me:WellAll w.params s₁.heap vals ds) (cC:lR ds=true) (hwt:∀d∈ds,d.weight<=1048576) (hr:eA k callerA)
  (hC:PySem.W.CodeHd s₁.heap c Pt) (hP:s₁.heap.get? Pt=some {cls:=.none,data:=.fields #[]}) (hKP:K.lookup Pt=none) (hB:BMain mg s₁.heap)
  (F:∀base:Heap,ZaK->Zai->Zh8 Pt->Zjl->Y2 k fa fd ps sp) (Mh:∀(s:Shared) (us:Zq),us.length=ps.length->ZhR ZbI) (hlen:ds.length=ps.length)
  (ow:∀(H:Hp) (xs:Ze),H Pt=some Zgt->Zcs xs ds->sp xs H (λv H'=>Dw K H' v d0/\∃iz,H' Pt=some ZdK) λ_ _ _=>False):
  codeAny Zdr callerA (.call (.ref fa) ⟨vals,[]⟩) (λr s'=>∃u as,r=.ok (.ret u)/\ReadsW R cl s'.heap u d0 as/\OldK s₁.heap s'.heap/\s'.os=s₁.os/\ZoL) s₁:=by
 obtain⟨A,ho,ar⟩:=F5 ds vals me cC hwt;obtain⟨H0,yu⟩:∃H0,H0=kM K s₁.heap A:=Zs;have hO:aeP H0:=by rw[yu];exact arW ar
 have auV:Za6 H0 s₁.heap:=by rw[yu];exact arX ar
 have hS0:ke K H0 Zo7 ds:=by rw[yu];exact ZjS vals me cC ho
 have hV:=qG ho;have hK0:∀b u,H0 b=some u->K.lookup b=none:=λb u q=>by rw[yu]at q;exact(BN ar q).1
 have RE:∀b u o,H0 b=some u->s₁.heap.get? b=some o->∃vs n,o.data=.seq vs n:=λb u o q e=>by
  rw[yu]at q;obtain⟨_,vs,_,_,⟨e2,_⟩|⟨e2,_⟩⟩:=BN ar q
  ·rw[e2]at e;cases e
   exact⟨_,_,rfl⟩
  ·rw[e2]at e;cases e
   exact⟨_,_,rfl⟩
 have nP:H0 Pt=none:=by
  cases q:H0 Pt with
  |none=>rfl
  |some u=>
   obtain⟨vs,n,e⟩:=RE Pt u _ q hP;cases e
 obtain⟨H,hH⟩:∃H,H=upd H0 Pt Zgt:=Zs;have hHP:H Pt=some Zgt:=by rw[hH];exact au
 have Bm:∀b,b≠Pt->H b=H0 b:=λb q=>by rw[hH];exact ax q
 have s0:∀b o,H0 b=some o->H b=some o:=λb o e=>by rw[Bm b λz=>by rw[z,nP]at e;cases e];exact e
 have aC:Za6 H s₁.heap:=λb u q=>by
  by_cases z:b=Pt
  ·rw[z,hHP]at q;cases q
   rw[z];exact hP
  ·rw[Bm b z,yu]at q;ext cw
   ·exact Zxx
   ·exact Zuf
 have sqL:∀{a:Addr} {xs:Ze},ag K H0 a xs->YJ:=λh=>by
  rcases h with(h|⟨o,h⟩)|h
  ·exact Zxa
  ·exact Zu7
  ·exact Vq
 have sqT:∀{a:Addr} {xs:Ze},bM K H0 a xs->VL:=λh=>by
  rcases h with(h|⟨o,h⟩)|h
  ·exact Zxa
  ·exact Zu7
  ·exact Vq
 have hS:Zcs Zo7 ds:=FQ sqL sqT hS0;have hK:∀b u,H b=some u->K.lookup b=none:=λb u q=>by
  by_cases z:b=Pt
  ·rw[z];exact hKP
  ·rw[Bm b z]at q;exact hK0 b u q
 have offS:∀{b:Addr} {o:Obj},s₁.heap.get? b=some o->(∀vs n,o.data≠.seq vs n)->b≠Pt->H b=none:=λ{b o} e d z=>by
  rw[Bm b z];cases q:H0 b with
  |none=>rfl
  |some u=>
   obtain⟨vs,n,e2⟩:=RE b u o q e;exact absurd e2 (d vs n)
 have Ar:∀{b:Addr} {o:Obj} {es:Ur} {ep:Nat},s₁.heap.get? b=some o->o.data=ZaW ep->H b=none:=λ{b o es ep} e d=>
  offS e (λvs n q=>by rw[d]at q;cases q) λz=>by
   rw[z,hP]at e;cases e
   cases d
 have F2:∀{b:Addr} {o:Obj},s₁.heap.get? b=some o->H b=none->(ZlX H).get? b=some o:=λe n=>ani e n;have Ek:∀{b:Addr} {m:Zx},s₁.heap.Ns b m->(ZlX H).Ns b m:=λ{b m} ⟨o,es,ep,e,d,r⟩=>⟨o,es,ep,F2 e (Ar e d),d,r⟩;have nK:∀b o,K.lookup b=some o->H b=none:=λb o e=>by
  cases q:H b with
  |none=>rfl
  |some u=>
   rw[hK b u q]at e;cases e
 have hKb:K.In Zg7:=λb o e=>F2 (KX b o e) (nK b o e);have hM:Mod K mg Zg7:=⟨hKb,Ek vc,⟨mb,Ek hb,hbb⟩,let⟨mc,h1,h2⟩:=am4;⟨mc,Ek h1,h2⟩⟩;have e0:wA P w K mg Zg7 callerA [] s₁ H:=⟨rfl,hM,λb o e=>akw e,OX (anh _ _),trivial,λb hb=>absurd (show b∈([]:List Addr)from hb) Zh,aC,.of_eq hg⟩;have hl:vals.length=ps.length:=by rw[CF me];exact hlen
 have hC0:=id hC;obtain⟨oc,vs,file,tf,flags,tg,inF,text,tt,c1,c2,c3,c4,cr⟩:=hC;have hCb:PySem.W.CodeHd Zg7 c Pt:=⟨oc,vs,file,tf,flags,tg,inF,text,tt,F2 c1 (offS c1 (λv n q=>by rw[c3]at q;cases q) λz=>by
  rw[z,hP]at c1;cases c1
  cases c2),c2,c3,c4,cr⟩
 ext dt;have hBb:BMain mg Zg7:=⟨bm,ob,b1,b2,F2 b3 (offS b3 (λv n q=>by rw[b6]at q;cases q) λz=>by
  rw[z,hP]at b3;cases b3
  cases b4),b4,b5,b6⟩
 have hfz:∀b u,b≠Pt->H b=some u->∃o v,u=.bL o v:=λb u z q=>by
  rw[Bm b z]at q;rcases hO b with y|⟨o,v,y⟩
  ·rw[y]at q;cases q
  ·rw[y]at q;cases q
   exact⟨o,v,rfl⟩
 refine vK ((F _ hKb (Ek vc) hCb hBb).run callerA [] s₁ H ⟨vals,[]⟩ vals Zo7 _ _ hr e0 (Mh s₁ vals hl) hV (ow H _ hHP hS)) λr s' x=>?_;cases r with
 |error e=>exact ZfN
 |ok fl=>
  cases fl with
  |next=>exact False.elim x
  |brk=>exact ZfN
  |cont=>exact ZfN
  |ret u=>
   obtain⟨v,H',os,bare,un,LG,r',q,iz,amF⟩:=x;have kept:∀b o,b≠Pt->s₁.heap.get? b=some o->s'.heap.get? b=some o:=λb o z e=>by
    cases q2:H b with
    |none=>exact un.keep b o e q2 (by intro z;exact Zss) Zh
    |some u2=>
     obtain⟨ob,u3,rfl⟩:=hfz b u2 z q2;have z2:=un.ny b ob _ q2;obtain⟨e1,_⟩:=aC b _ q2;obtain⟨e2,_⟩:=LG b _ z2;rw[e]at e1;cases e1
     exact e2
   have hP':s'.heap.get? Pt=some {cls:=.none,data:=.fields iz}:=LG Pt _ amF;have KX':K.In s'.heap:=λb o e=>kept b o (λz=>by rw[z,hKP]at e;cases e) (KX b o e);obtain⟨as,iE⟩:=Dw.reads (R:=R) (cl:=cl) LG KX' d0 v u q r';refine⟨u,as,rfl,iE,⟨λb o e=>?_,λb o e=>?_⟩,os,bare⟩
   ·by_cases z:b=Pt
    ·rw[z,hP]at e;cases e
     rw[z];exact .inr (.inl ⟨⟨c,oc,vs,c1,c2,c3,c4⟩,rfl,#[],iz,rfl,by rw[hP',Array.empty_append]⟩)
    ·exact .inl (kept b o z e)
   ·by_cases z:b=Pt
    ·exact⟨_,by rw[z];exact hP'⟩
    ·exact⟨o,kept b o z e⟩
end
local macro_rules | `(tactic| simp! [$xs,*]) => `(tactic| simp only [nR, tN, pf, mL, kR, ux, qX, tP, qM, tU, kS, tM, mN, kK, mM, tD, tG, wN, tC, tB, tX, tJ, tK, tW, tI, wO, tO, qI, tT, qL, qJ, qZ, qY, uu, rg, rh, jk, rI, uA, uf, tQ, mQ, uq, uv, tV, vA, uw, uz, ur, nS, pj, qH, tF, qW, tH, tL, wQ, wU, rV, rT, rW, AL, u4, rS, AK, uZ, tu, qN, rR, tw, rU, tE, qV, tS, tR, wV, nT, ph, qK, vC, vB, Nat.succ_eq_add_one, sG, uc, w9, w_, w8, V.str.injEq, ua, uH, lY, xO, yM, fold_succ, List.set_cons_zero, List.set_cons_succ, List.getElem?_cons_zero, List.getElem?_cons_succ, Option.some.injEq, exists_eq_left', exists_eq_left, exists_and_left, and_assoc, true_and, and_true, V.bl.injEq, HO.lst.injEq, HO.ins.injEq, HO.tup.injEq, V.ref.injEq, V.int.injEq, decide_true, decide_false, if_true, if_false, List.cons.injEq, Bool.false_eq_true, au, jh, exists_const, exists_eq', exists_eq, and_self, List.append_nil, List.nil_append, List.cons_append, List.append_assoc, L2.start, List.map_cons, List.map_nil, List.length_cons, List.length_nil, Nat.zero_add, Nat.reduceAdd, Nat.reduceSub, List.replicate_succ, List.replicate_zero, wipe, $xs,*])
section
open PySem.W (nsIn findIn)
section
variable {P:Program}{w:World}{K:PySem.W.Frag}{mg:Zx}{base:Heap}{A:Ad}{fs:X6}
theorem g_.of{x:Str}(h:Xl x)(X:ZaK)(G:Zai):mg x=none:=PySem.W.mg_none_of X G h
theorem cu.of{x:Str}{v:Tok->Value}(h:ZO x v)(X:ZaK)(G:Zai):∃t,mg x=some (v t):=let⟨t,e⟩:=h;⟨t,vW X G e⟩
theorem Bound.txt(B:ZjB)(X:ZaK)(G:Zai):Zm:=by
 have F:=B.bf;cases F
 cases B
 constructor<;>first |assumption|exact g_.of (by assumption) X G|exact vW X G (by assumption)|exact cu.of (v:=.int _) (by assumption) X G|exact cu.of (v:=.str _) (by assumption) X G|exact gc.cl (by assumption)|exact gc.no (by assumption)
theorem aw.got(P:Program)(w:World){x:Str}{st:Stmt}{ps:Zc}{k:Nat}{sp:Sp}(X:ZaK)(G:Zai)(h:Zp x st ps)(ok:∀f fd,Zo x x st f fd->ZiP):Zw x ps k sp:=by obtain⟨f,fd,i⟩:=h;exact⟨f,fd,ok f fd i.F,vW X G i.ns,i.F.kp,i.b⟩
theorem gc.got(P:Program)(w:World){x qual:Str}{st:Stmt}{ps fl:Zc}{C:Addr}{k:Nat}{sp:Sp}(X:ZaK)(G:Zai)(h:gc K x qual st ps fl C)(ok:∀f fd,Zav qual st f fd->ZiP):Zbj x C ps k sp:=by obtain⟨f,fd,m,F,b⟩:=h.mkr;exact⟨f,fd,m,ok f fd F,vW X G h.ns,b⟩
theorem Bound.answers{c:Addr}(B:ZjB)(X:ZaK)(G:Zai)(ht:Ztz)(hC:Zh8 A.tab)(hB:Zjl){f:Addr}{fd:FuncData}(F:Zul):ZwN:=by
 have B0:=B.bf;have T:=B.txt X G;have Nb:=Zc8 B.N8 λ_ _ F=>aju T F;have vz:=Zc8 B.N9 λ_ _ F=>ajB T F;have yK:=Zc8 B.N_ λ_ _ F=>aj4 T F;have Na:=Zc8 B.N7 λ_ _ F=>ajp T F;have Ni:=Zc8 B.Oa λ_ _ F=>aj5 T F;have FG:=Zc8 B.Ob λ_ _ F=>akg T F;have FD:=Zr B0.apV λ_ _ F=>akk T F;have FC:=Zr B0.aph λ_ _ F=>ajD T F;have p9:=Zr B0.ao2 λ_ _ F=>ajl T F;have M0:=Zr B0.apN λ_ _ F=>akb T p9 FC F;have MO:=Zr B0.apk λ_ _ F=>ajG T F;have fA:=Zr B0.aoO λ_ _ F=>ai7 T F;have p_:=Zr B0.ao9 λ_ _ F=>ajt T F;have yF:=Zr B0.apq λ_ _ F=>ajL T F;have qa:=Zr B0.apd λ_ _ F=>ajy F;have FA:=Zr B0.ape λ_ _ F=>ajz T qa F;have yI:=Zr B0.apD λ_ _ F=>ajZ T FA p9 F;have iK:=Zr B0.api λ_ _ F=>ajE T fA p_ yF yI F;have MP:=Zr B0.apl λ_ _ F=>ajH T F;have qd:=Zr B0.apM λ_ _ F=>aka T MP F;have MX:=Zr B0.apI λ_ _ F=>aj6 T iK qd fA p_ M0 FD MO F;have p8:=Zr B0.ao0 λ_ _ F=>ajj T F;have M8:=Zr B0.ap3 λ_ _ F=>aks T qa p8 F;have yA:=Zr B0.aoP λ_ _ F=>ai8 T qa F;have MM:=Zr B0.apf λ_ _ F=>ajA T p8 yA vz F;have ML:=Zr B0.apc λ_ _ F=>ajx T p8 yA vz F;have Bp:ZmD 11 (C7 A 7):=by obtain⟨f,fd,i⟩:=B0.apO;have hm:=vW X G i.ns;obtain⟨oc,od,kV,doc,pm,an,aG,ct,jn,e,lk,_⟩:=i.F.ex;have hc:fd.code=.ref c:=PySem.W.law_code (o:=Zw8) X G ht hm (X _ _ lk) rfl;exact⟨f,fd,akc T ML i.F hm i.b hc hC hB 7,hm,i.F.kp,i.b⟩
 have M1:=Zr B0.apP λ_ _ F=>akd T M8 MM Bp F;have j8:=Zr B0.apH λ_ _ F=>aj3 T p9 M1 F;have mi:=Zr B0.apR λ_ _ F=>akf T iK j8 F;have vy:=Zr B0.apE λ_ _ F=>aj0 T F;have M3:=Zr B0.apQ λ_ _ F=>ake T iK vy j8 F;have MW:=Zr B0.apG λ_ _ F=>aj2 T iK fA vy j8 F;have MN:=Zr B0.apj λ_ _ F=>ajF T F;have MY:=Zr B0.apJ λ_ _ F=>aj7 T iK fA qd MN j8 F;have Mz:=Zr B0.aoJ λ_ _ F=>ai2 T F;have MQ:=Zr B0.apm λ_ _ F=>ajI T iK p_ qd Mz j8 F;have sE:=Zr B0.apz λ_ _ F=>ajU T F;have Bq:=Zr B0.apW λ_ _ F=>akl T sE F;have MT:=Zr B0.apA λ_ _ F=>ajV T F;have MU:=Zr B0.apC λ_ _ F=>ajY T sE Bq MT F;have Bo:=Zr B0.aoH λ_ _ F=>ai0 T F;have yE:=Zr B0.apg λ_ _ F=>ajC T F;have yB:=Zr B0.aoQ λ_ _ F=>ai9 T F;have MZ:=Zr B0.apL λ_ _ F=>aj9 T yB F;have Mx:=Zr B0.aoG λ_ _ F=>aiZ T yE MZ F;have My:=Zr B0.aoI λ_ _ F=>ai1 T MU Bo Mx F;have MF:=Zr B0.aoV λ_ _ F=>aje T F;have MS:=Zr B0.apu λ_ _ F=>ajP T MF F;have qb:=Zr B0.apw λ_ _ F=>ajR T F;have mh:=Zr B0.apy λ_ _ F=>ajT T F;have yG:=Zr B0.apv λ_ _ F=>ajQ T F;have M4:=Zr B0.apS λ_ _ F=>akh T FG F;have dZ:=Zr B0.apt λ_ _ F=>ajO T F;have sF:=Zr B0.apT λ_ _ F=>aki T F;have yC:=Zr B0.ao4 λ_ _ F=>ajn T F;have MK:=Zr B0.apb λ_ _ F=>ajw T yC F;have ME:=Zr B0.aoU λ_ _ F=>ajd T yC F;have MG:=Zr B0.aoX λ_ _ F=>ajg T sF MK ME F;have avl:=Zr B0.aoZ λ_ _ F=>aji T dZ MG F;have avt:=Zr B0.apK λ_ _ F=>aj8 T dZ mi MY F;have avp:=Zr B0.apn λ_ _ F=>ajJ T dZ fA MQ F;have avn:=Zr B0.ao5 λ_ _ F=>ajo T fA F;have avi:=Zr B0.aoL λ_ _ F=>ai4 T fA MX F;have qe:=Zr B0.apU λ_ _ F=>akj T yB yF yI M3 F;have MV:=Zr B0.apF λ_ _ F=>aj1 T qe F;have avh:=Zr B0.aoK λ_ _ F=>ai3 T dZ qb MV F;have yH:=Zr B0.apx λ_ _ F=>ajS T F;have yJ:=Zr B0.apZ λ_ _ F=>ako T F;have M6:=Zr B0.ap0 λ_ _ F=>akp T yJ F;have avs:=Zr B0.apB λ_ _ F=>ajX T dZ yH M6 F;have avr:=Zr B0.apr λ_ _ F=>ajM T qb mh qe F;have MB:=Zr B0.aoR λ_ _ F=>aja T yJ F;have MA:=Zr B0.aoM λ_ _ F=>ai5 T MB dZ F;have avj:=Zr B0.aoN λ_ _ F=>ai6 T MA F;have avo:=Zr B0.apa λ_ _ F=>ajv T mi fA MW F;have MH:=Zr B0.aoY λ_ _ F=>ajh T sF dZ F;have M9:=Zr B0.ap4 λ_ _ F=>akt T F;have avq:=Zr B0.apo λ_ _ F=>ajK T MH dZ M9 F;have yD:=Zr B0.ao7 λ_ _ F=>ajr T F;have MI:=Zr B0.ao6 λ_ _ F=>ajq T yD yK F;have avk:=Zr B0.aoW λ_ _ F=>ajf T qb mh qe MI F;have avm:=Zr B0.ao1 λ_ _ F=>ajk T mh mi F;have M7:=Zr B0.ap1 λ_ _ F=>akq T F;have MJ:=Zr B0.ao8 λ_ _ F=>ajs T yD yK F;have avu:=Zr B0.ap2 λ_ _ F=>akr T yH mh yG M7 MJ F;have Fz:=Zr B0.ao3 λ_ _ F=>ajm T F;have MD:=Zr B0.aoT λ_ _ F=>ajc T Fz yE F;have MC:=Zr B0.aoS λ_ _ F=>ajb T MS My MD F;have MR:=Zr B0.aps λ_ _ F=>ajN T yG Nb MC Na mi F;have hD:afV K mg A fs:=⟨vW X G B.J7,B.Kv,λn x h=>let⟨f,e,m⟩:=B.NN n x h;⟨f,vW X G e,m⟩⟩;have Ms:∀n x,(n,x)∈oJ->∃ps,Zyp:=λn x h=>by
  unfold oJ at h;simp only[aJ,OA,mw,lU]at h;rcases h with⟨rfl,rfl⟩|⟨rfl,rfl⟩|⟨rfl,rfl⟩|⟨rfl,rfl⟩|⟨rfl,rfl⟩|⟨rfl,rfl⟩|⟨rfl,rfl⟩|⟨rfl,rfl⟩|⟨rfl,rfl⟩|⟨rfl,rfl⟩|⟨rfl,rfl⟩|⟨rfl,rfl⟩|⟨rfl,rfl⟩|⟨rfl,rfl⟩<;>exact⟨_,by assumption⟩
 have M5:=Zr B0.apY λ_ _ F=>akn T hD MR Ms F;exact akm T Ni M4 dZ M5 F
end
open PySem.W (WData Codec OpenSpec)
theorem agL{q P:Program}{w:World}{K:PySem.W.Frag}{h:Heap}{mg:Zx}{fa c:Addr}{A:Ad}{fs:X6}{dr:DefRec}(KX:V4)(G:h.Ns mainGlobals mg)(r_:mg "answers"=some (.ref fa))(B:ZjB)(ht:Ztz)(hn:K.lookup A.tab=none)
  (m9:Zu5):
  ∃(fd:FuncData) (A:Ad) (c:Addr) (dr:DefRec),(∀(s:Shared) (us:Zq),us.length=mv.length->ZhR (mv.zip us))/\Zim "can_fill_parts"=some Zkz/\K.lookup A.tab=none/\(recsOf q).find? Zhi=some dr/\
   ∀base:Heap,ZaK->Zai->Zh8 A.tab->Zjl->Y2 19 fa fd mv (wY A K):=by
 have B0:=B.bf;obtain⟨f,fd,i⟩:=B0.apX;have e:=r_.symm.trans (vW KX G i.ns);cases e
 refine⟨fd,_,c,dr,λs us hu=>?_,ht,hn,m9,λbase X G' hC hB=>B.answers X G' ht hC hB i.F⟩;obtain⟨oc,od,kV,doc,pm,an,aG,ct,jn,e,lk,_⟩:=i.F.ex;rw[e];exact .of_eq (arF kV doc pm an aG ct us hu)
theorem agv{r:OpenSpec}{q:Program}{loose:Zc}{XP:(Str->Zad)->Heap->Prop}{YP:World->Heap->Prop}{d:DefRec}{K:Params->PySem.W.Frag}
  (aml:r.wellSaid=true) (hlen:r.args.length=mv.length) (hr:eA 19 callerA) (hY:∀(w:World) (h:Heap),YP w h->(K w.params).In h)
  (F:∀(w:World) (mg:Zx) (fa:Addr) (h:Heap),YP w h->(K w.params).In h->h.Ns mainGlobals mg->mg d.name=some (.ref fa)->
   ∃(fd:FuncData) (A:Ad) (c:Addr) (dr:DefRec),(∀(s:Shared) (us:Zq),us.length=mv.length->ZhR (mv.zip us))/\PySem.W.tabIn (K w.params) "can_fill_parts"=some Zkz/\(K w.params).lookup A.tab=none/\(recsOf q).find? Zhi=some dr/\
    ∀base:Heap,(K w.params).In base->base.Ns mainGlobals mg->PySem.W.CodeHd base c A.tab->BMain mg base->aO r.prog w (K w.params) mg base aQ 19 fa fd mv (wY A (K w.params)))
  (ow:∀(K:PySem.W.Frag) (A:Ad) (H:Hp) (xs:Ze) (a:Codec.denoteAll r.args),H A.tab=some Zgt->Codec.withinAll r.args a=true->Codec.app r.args r.asked a=true->Zcs xs (Codec.encAll r.args a)->
   wY A K xs H (λv H'=>Dw K H' v (r.ret.enc (Codec.app r.args r.f a))/\∃iz,H' A.tab=some (.b9 iz)) λ_ _ _=>False):
  PySem.W.WalkOS q loose XP YP r d [] (λf vs=>PySem.call f vs):=by
 intro w gM s₁ mg mb G Y fa o pm cd doc dV kV ho hd lB hD r_ hg args vals as jx yb iE me pW;obtain⟨a,e1,e2⟩:=PySem.W.os_pre_some jx;obtain⟨e3,ES⟩:=Codec.encAll_of_decAll r.args args a e1;subst e3;have KX:=hY w _ Y;obtain⟨fd,A,c,dr,hb,ht,hn,m9,hF⟩:=F w mg fa _ Y KX G.T.g r_;obtain⟨hC,hP⟩:=PySem.W.tab_of G.T KX m9 ht;refine PySem.W.enter_call (vK (aq8 (R:=[]) (cl:=classAt gM.heap) (d0:=r.ret.enc (Codec.app r.args r.f a)) KX G.T.g G.T.b G.T.builtins G.T.nolimit hg me (aag _ _) (alC yb) hr hC hP hn G.T.bmain hF hb (by rw[adC];exact hlen)
  (λH xs hO hS=>ow (K w.params) A H xs a hO ES e2 hS)) λr' s' hq=>?_)
 obtain⟨u,as',rfl,h1,h2,h3,h4⟩:=hq;exact⟨.inl ⟨u,_,as',rfl,λ_=>rfl,h1,(OpenSpec.post_iff aml ES _ _).mpr rfl,λz=>Bool.noConfusion (show false=true from z)⟩,h2,h3,h4⟩
theorem ahn{K:PySem.W.Frag}{A:Ad}{H:Hp}{l:ZK}{a:Addr}(hP:H A.tab=some Zgt)(hl:l.length<=16000)(lD:PyVbwbal.answers_asked l=true)(hs:XD a V1):
  wY A K [.ref a] H (λv H'=>Dw K H' v (.list ((PyVbwbal.answers l).map WData.int))/\∃iz,H' A.tab=some ZdK) λ_ _ _=>False:=
 ⟨a,l,rfl,hs,hl,lD,⟨#[],hP,trivial,λpos cv e=>ZbA⟩,λH' r hr ht=>⟨.lst (ag.of hr) (adG _),let⟨ps,h,_⟩:=ht;⟨ps,h⟩⟩⟩
end
end
section
section
open Vbwbal (Plan Bytes Choice splitBy wordsOf letter digit isName numOf lineOf text stepNames personNames indexOf rolesOf before pairLine)
theorem II:∀(l a:Za),a.Pairwise Vf->(Zxq a).Pairwise Vf/\∀y,y∈Zxq a↔y∈a∨y∈l
 |[],a,h=>⟨h,λy=>Zh⟩
 |x::r,a,h=>by
  obtain⟨h1,h2⟩:=II r (ZcP a) (EL x a h);refine⟨h1,λy=>?_⟩;rw[wk,h2,uX,aJ];ext b
  ·rintro((h|h)|h)
   ·exact ZdP
   ·exact XQ
   ·exact .inr Vq
  ·rintro(h|h|h)
   ·exact .inl Vq
   ·exact .inl XQ
   ·exact Vq
def lN(ps:ZV)(l:Za):Za:=Vbwbal.sorted (l++(ps.filter λx=>l.contains x.1).map λx=>x.2)
theorem arD(ps:ZV)(n:Nat)(l:Za):ZaO Wi l=ZaO n (Ud l):=rfl
theorem Ij(ps:ZV)(l:Za):(Ud l).Pairwise Vf:=(II _ [] List.Pairwise.nil).1
theorem xG{ps:ZV}{l:Za}{y:Nat}:y∈Ud l↔y∈l∨∃x∈l,(x,y)∈ps:=by
 unfold lN Vbwbal.sorted;rw[(II _ [] List.Pairwise.nil).2,b8,aN];ext b
 ·rintro(h|h|⟨p,hp,rfl⟩)
  ·cases h
  ·exact XQ
  ·obtain⟨h1,h2⟩:=bD.mp hp;exact .inr ⟨p.1,bx.mp h2,h1⟩
 ·rintro(h|⟨x,hx,hp⟩)
  ·exact ZdP
  ·exact .inr (.inr ⟨(x,y),bD.mpr ⟨hp,bx.mpr hx⟩,rfl⟩)
theorem J9{l:Za}(h:Zc9):l.Nodup:=h.imp λa=>eB a
theorem ahf{ps:ZV}{l:Za}(hl:Zc9)(h:(Ud l).length <=l.length):Ud l=l:=by
 refine C_ (Ij ps l) hl λx=>⟨λhx=>?_,λhx=>xG.mpr (.inl hx)⟩;refine Hm λhn=>?_;have gn:(x::l).Nodup :=df.mpr ⟨hn,J9 hl⟩;have gj:(x::l) ⊆ lN ps l:=λy hy=>by
  rcases aJ.mp hy with e|e
  ·rw[e];exact hx
  ·exact xG.mpr Zb9
 have key:∀(a b:Za),a.Nodup->a ⊆ b->a.length<=b.length:=by
  intro a
  induction a with
  |nil=>intro b _ _;exact ZI
  |cons y r ih=>
   intro b hn hs;ext t;have hy:y∈b:=hs aY;have:=ih (b.erase y) h2 λz hz=>(List.mem_erase_of_ne λe:z=y=>h1 (e▸hz)).mpr (hs ZgS);rw[atm hy]at this;have hp:0<b.length:=List.length_pos_of_mem hy;rw[bb];omega
 have:=key _ _ gn gj;rw[bb]at this;omega
theorem aen{ps:ZV}{l:Za}(h:Ud l=l):∀n,ZaO n l=l
 |0=>rfl
 |n+1=>by rw[arD,h,aen h n]
theorem aeo{ps:ZV}(hp:∀y∈ps,y.2<7):∀(n:Nat) (l:Za),Zc9->(∀x∈l,x<7)->7-l.length<=n->Ud (ZaO n l)=ZaO n l
 |n,l,hl,hb,hn=>by
  have fi:∀x∈Ud l,x<7:=λx hx=>by
   rcases xG.mp hx with h|⟨z,_,h⟩
   ·exact hb x h
   ·exact hp _ h
  have h7:=oh 7 _ (J9 (Ij ps l)) fi;by_cases hg:(Ud l).length <=l.length
  ·have e:=ahf hl hg;rw[aen e n,e]
  ·cases n with
   |zero=>omega
   |succ n=>exact aeo hp n (Ud l) (Ij ps l) fi Zb
theorem ael(ps:ZV):∀(n:Nat) (l:Za),∀x∈l,x∈ZaO n l
 |0,l,x,h=>h
 |n+1,l,x,h=>ael ps n _ x (xG.mpr XQ)
theorem aem(ps:ZV)(j:Nat):∀(n:Nat) (l:Za),(∀x∈l,Zgk x)->∀x∈ZaO n l,Zgk x
 |0,l,h=>h
 |n+1,l,h=>aem ps j n _ λx hx=>by
  rcases xG.mp hx with q|⟨z,hz,q⟩
  ·exact h x q
  ·exact .step (h z hz) q
theorem arE{ps:ZV}(hp:∀y∈ps,y.2<7){j:Nat}(hj:j<7)(i:Nat):(ZaO 8 [j]).contains i=true↔Zgk i:=by
 rw[bx];ext b
 ·exact aem ps j 8 [j] (λx hx=>by rw[bo.mp hx];exact .refl _) i
 ·intro r;have hc:=aeo hp 8 [j] Zh (λx hx=>by rw[bo.mp hx];exact hj) Zh
  induction r with
  |refl=>exact ael ps 8 [j] j Zh
  |step _ hq ih=>
   rw[←hc];exact xG.mpr (.inr ⟨_,ih,hq⟩)
theorem anY(ws:Zz)(k:Nat):(ws.map mask).getD k []=mask Zo8:=by rw[jN,jN,cx];cases ws[k]? <;>rfl
theorem aa8(w:Bytes):(mask w).length =w.length:=by unfold mask;rw[aq]
theorem ak1(w:Bytes):gB (mask w)=gB w:=by
 unfold gB;rw[aa8,aew _ λc=>K0];congr 2;cases w with
 |nil=>rfl
 |cons c r=>
  show(decide ((c::r).length =1)||decide (some Zel≠some 48))=(decide ((c::r).length =1)||decide (some c≠some 48));congr 1;refine sI.mpr ?_;have:dX c=48↔c=48:=by
   ext b
   ·intro h;rw[←h];exact(aa7 (.inr (by rw[h];decide))).symm
   ·intro h;rw[h];decide
  simp[this]
def Plain(v:Bytes):Prop:=∀c∈v,letter c=true∨digit c=true
theorem aad:Plain (text "role"):=by unfold Plain;decide+kernel
theorem aae:Plain (text "person"):=by unfold Plain;decide+kernel
theorem aac:Plain (text "step"):=by unfold Plain;decide+kernel
theorem aah:Plain (text "by"):=by unfold Plain;decide+kernel
theorem aaj:Plain Zfw:=by unfold Plain;decide+kernel
theorem aab:Plain Zi5:=by unfold Plain;decide+kernel
theorem aai:Plain Zjd:=by unfold Plain;decide+kernel
theorem aaf:Plain (text "most"):=by unfold Plain;decide+kernel
theorem ar2(ws:Zz):(ws.map mask).all isName=ws.all isName:=by rw[mC];congr 1;funext w;exact ab4 w
theorem adj(ws:Zz):fZ Zby=fZ ws:=by unfold fZ;simp only[anY,aq,pE aad,pE aae,pE aac,pE aah,pE aaj,pE aab,pE aai,pE aaf,ab4,ak1,←Co,ar2]
theorem ak9{w:Bytes}(h:Plain w):mask w=w:=(pE h).mpr rfl
theorem xl{w:Bytes}(h:ZpR):Plain w:=λc hc=>by unfold isName at h;rw[aP,aP]at h;have:=dh.mp h.2.1 c hc;rw[h_]at this;exact this
theorem aie{w:Bytes}(h:gB w=true):Plain w:=λc hc=>by unfold gB at h;rw[aP,aP]at h;exact .inr (dh.mp h.2.1 c hc)
theorem HL{ws:Zz}(h:ws.length=2):∃a b,ws=[a,b]:=by
 match ws,h with
 |[a,b],_=>exact ZjO
theorem wL{ws:Zz}(h:ws.length=3):∃a b c,ws=[a,b,c]:=by
 match ws,h with
 |[a,b,c],_=>exact⟨a,b,c,rfl⟩
theorem HK{ws:Zz}(h:2<=ws.length):∃a b l,ws=a::b::l:=by
 match ws,h with
 |a::b::l,_=>exact⟨a,b,l,rfl⟩
theorem HJ{ws:Zz}(h:4<=ws.length):∃a b c d l,ws=a::b::c::d::l:=by
 match ws,h with
 |a::b::c::d::l,_=>exact⟨a,b,c,d,l,rfl⟩
theorem abJ:text "person"≠text "role":=by decide+kernel
theorem abH:text "step"≠text "role":=by decide+kernel
theorem abI:text "step"≠text "person":=by decide+kernel
theorem abR:text "after"≠text "role":=by decide+kernel
theorem abS:text "after"≠text "person":=by decide+kernel
theorem abQ:text "after"≠text "step":=by decide+kernel
theorem abF:text "unlike"≠text "role":=by decide+kernel
theorem abG:text "unlike"≠text "person":=by decide+kernel
theorem abE:text "unlike"≠text "step":=by decide+kernel
theorem ED:text "unlike"≠text "after":=by decide+kernel
theorem abO:text "alike"≠text "role":=by decide+kernel
theorem abP:text "alike"≠text "person":=by decide+kernel
theorem abN:text "alike"≠text "step":=by decide+kernel
theorem EF:text "alike"≠text "after":=by decide+kernel
theorem EE:text "alike"≠text "unlike":=by decide+kernel
theorem abL:text "most"≠text "role":=by decide+kernel
theorem abM:text "most"≠text "person":=by decide+kernel
theorem abK:text "most"≠text "step":=by decide+kernel
theorem AF:text "most"≠text "after":=by decide+kernel
theorem AD:text "most"≠text "unlike":=by decide+kernel
theorem AE:text "most"≠text "alike":=by decide+kernel
theorem adi{ws:Zz}(h:fZ ws=true):ws.map mask=ws:=by
 have key:∀l:List Bytes,(∀w∈l,Plain w)->l.map mask=l:=λl hl=>(gv λw hw=>ak9 (hl w hw)).trans (G_ l);obtain⟨f1,f2,f3,f4,f5⟩:=FI h;refine key ws ?_;unfold fZ at h;by_cases h1:ws.getD 0 []=text "role"
 ·ext bk;rw[af h1,aP]at h;ext bu;intro w hw;rcases aJ.mp hw with e|hw
  ·rw[e,ha];exact aad
  ·rw[bo.mp hw];exact xl h.2
 ext S
 ·ext be;rw[ae h1,af h2,aP]at h;ext bo;intro w hw;rcases aJ.mp hw with e|hw
  ·rw[e,ha];exact aae
  ·exact xl (dh.mp h.2 w hw)
 ext T
 ·ext a8;rw[ae h1,ae h2,af h3,aP,aP,aP,bX,bX]at h;ext bv;have hc:c=text "by":=h.2.2.1;intro w hw;rcases aJ.mp hw with e|hw
  ·rw[e,ha];exact aac
  rcases aJ.mp hw with e|hw
  ·rw[e];exact xl h.2.1
  rcases aJ.mp hw with e|hw
  ·rw[e,hc];exact aah
  ·exact xl (dh.mp h.2.2.2 w hw)
 ext ak
 ·ext bd;rw[ae h1,ae h2,ae h3]at h;ext bt;have hn:¬(a=text "after"∨a=text "unlike"∨a=text "alike"):=by
   rw[ha];rintro(q|q|q)
   ·exact AF q
   ·exact AD q
   ·exact AE q
  have h:(if(a=text "after"∨a=text "unlike"∨a=text "alike")then _ else if a=text "most"then(decide ([a,b,c].length =3)&&(isName b&&gB c))else false)=true:=h;rw[ae hn,af ha,aP,aP]at h;intro w hw;rcases aJ.mp hw with e|hw
  ·rw[e,ha];exact aaf
  rcases aJ.mp hw with e|hw
  ·rw[e];exact xl h.2.1
  ·rw[bo.mp hw];exact aie h.2.2
 ·ext ar;rw[ae h1,ae h2,ae h3,af g1,aP]at h;ext bm;intro w hw;rcases aJ.mp hw with e|hw
  ·have g1:a=text "after"∨a=text "unlike"∨a=text "alike":=g1;rw[e];rcases g1 with q|q|q
   ·rw[q];exact aaj
   ·rw[q];exact aab
   ·rw[q];exact aai
  ·exact xl (dh.mp h.2 w hw)
end
section
open Vbwbal (Plan Bytes Choice splitBy wordsOf letter digit isName numOf lineOf text stepNames personNames indexOf rolesOf before pairLine)
def gg(w:Bytes):Nat:=w.foldl (λn c=>10*n+(c-48)) 0
theorem dg{c:Nat}(h:digit c=true):48<=c/\c<=57:=by unfold digit at h;exact lW h
theorem aaO{w:Bytes}(hn:w≠[])(h:gB w=true):numOf w=some (gg w)/\gg w<=99:=by
 unfold gB at h;rw[aP,aP,h_,bX,bX,bX]at h;obtain⟨h1,h2,h3⟩:=h;ext b
 ·unfold numOf;rw[ae]
  ·rfl
  ·rintro(q|q|q|q)
   ·exact hn (Ha.mp q)
   ·omega
   ·rw[h2]at q;cases q
   ·rcases h3 with e|e
    ·omega
    ·exact e q.1
 ·unfold gg
  match w,hn,h1,h2 with
  |[a],_,_,h2=>
   rw[hZ,aP]at h2;have:=dg h2.1;show 10*0+(a-48)<=99;omega
  |[a,b],_,_,h2=>
   rw[hZ,hZ,aP,aP]at h2;have:=dg h2.1;have:=dg h2.2.1;show 10*(10*0+(a-48))+(b-48)<=99;omega
theorem akB{w:Bytes}(h:gB w=false):∀m,numOf w=some m->99<m:=by
 intro m hm;unfold numOf at hm;by_cases q:w.isEmpty=true∨3<w.length∨(w.all digit)=false∨(w.head? =some 48/\1<w.length)
 ·rw[af q]at hm;cases hm
 ·rw[ae q]at hm;have e:=bY hm;have hl:w.length<=3:=Nat.le_of_not_lt λz=>q ZoJ;have ha:w.all digit=true:=by
   cases z:w.all digit with
   |true=>rfl
   |false=>exact absurd (.inr ZoJ) q
  have hh:¬(w.head? =some 48/\1<w.length):=λz=>q (.inr ZoK);have h2:¬w.length<=2:=λz=>by
   have:gB w=true:=by
    unfold gB;rw[aP,aP,h_,bX,bX,bX];refine⟨z,ha,?_⟩;by_cases y:w.length=1
    ·exact .inl y
    ·refine .inr λx=>hh ⟨x,?_⟩;cases w with
     |nil=>cases x
     |cons a r=>
      rw[bb]at y⊢;omega
   rw[this]at h;cases h
  match w,hl,h2,ha,hh,e with
  |[a,b,c],_,_,ha,hh,e=>
   rw[hZ,aP]at ha;have:=dg ha.1;have h0:a≠48:=λz=>hh ⟨by rw[z];rfl,Zh⟩;have e:10*(10*(10*0+(a-48))+(b-48))+(c-48)=m:=e;omega
  |[],_,h2,_,_,_=>exact ZpJ
  |[_],_,h2,_,_,_=>exact ZpJ
  |[_,_],_,h2,_,_,_=>exact ZpJ
  |_::_::_::_::_,hl,_,_,_,_=>simp at hl
theorem abg(P:Plan)(r:Zz):Ww (text "role"::r)=(match r with
  |[n]=>if isName n=false then .error 1 else if P.roles.contains n=true then .error 2 else if 8<=P.roles.length then .error 5 else .ok {P with roles:=P.roles++[n]}
  |_=>.error 1):=by
 ext I;exact af rfl
theorem abh(P:Plan)(r:Zz):Ww (text "person"::r)=(match r with
  |n::l=>if(n::l).all isName=false then .error 1 else if(personNames P).contains n=true then .error 2 else(match rolesOf P l with
   | .error e=>.error e
   | .ok x=>if 7<=P.persons.length then .error 5 else .ok {P with persons:=P.persons++[⟨n,x,99⟩]})
  |[]=>.error 1):=by
 ext I;exact(ae abJ).trans ZaN
theorem abf(P:Plan)(r:Zz):Ww (text "step"::r)=(match r with
  |n::b::l=>if b≠text "by"∨l.isEmpty=true∨(n::l).all isName=false then .error 1 else if(stepNames P).contains n=true then .error 2 else(match rolesOf P l with
   | .error e=>.error e
   | .ok x=>if 7<=P.steps.length then .error 5 else .ok {P with steps:=P.steps++[⟨n,x⟩]})
  |_=>.error 1):=by
 ext I;exact(ae abH).trans ((ae abI).trans ZaN)
theorem abk(P:Plan)(r:Zz):Ww (text "after"::r)=(match r with
  |[a,b]=>UH 0 a b
  |_=>.error 1):=by
 ext I;exact(ae abR).trans ((ae abS).trans ((ae abQ).trans ZaN))
theorem abe(P:Plan)(r:Zz):Ww (text "unlike"::r)=(match r with
  |[a,b]=>UH 1 a b
  |_=>.error 1):=by
 ext I;exact(ae abF).trans ((ae abG).trans ((ae abE).trans Zxz))
theorem abj(P:Plan)(r:Zz):Ww (text "alike"::r)=(match r with
  |[a,b]=>UH 2 a b
  |_=>.error 1):=by
 ext I;exact(ae abO).trans ((ae abP).trans ((ae abN).trans ((ae EF).trans ((ae EE).trans ZaN))))
theorem abi(P:Plan)(r:Zz):Ww (text "most"::r)=(match r with
  |[a,n]=>if isName a=false then .error 1 else(match numOf n with
   |none=>.error 1
   |some m=>if 99<m then .error 1 else match indexOf Zi4 a with
    |none=>.error 3
    |some _=>.ok {P with persons:=P.persons.map λx=>if x.name==a then{x with most:=m}else x})
  |_=>.error 1):=by
 ext I;exact(ae abL).trans ((ae abM).trans ((ae abK).trans ((ae AF).trans ((ae AD).trans ((ae AE).trans ZaN)))))
theorem alo(P:Plan)(k:Bytes)(r:Zz)(h1:k≠text "role")(h2:k≠text "person")(h3:k≠text "step")(h4:k≠text "after")(h5:k≠text "unlike")(h6:k≠text "alike")(h7:k≠text "most"):Ww (k::r)=.error 1:=by unfold lineOf;exact(ae h1).trans ((ae h2).trans ((ae h3).trans ((ae h4).trans ((ae h5).trans ((ae h6).trans (ae h7))))))
theorem Od{b:Bool}(h:¬b=true):b=false:=by cases b with |true=>exact absurd rfl h|false=>rfl
theorem aiF{P:Plan}{i:Nat}{a b:Bytes}(h:(isName a&&isName b)=false):UH i a b=.error 1:=by unfold pairLine;rw[af h]
theorem aot(P:Plan){ws:Zz}(ok:oP ws)(h:fZ ws=false):Ww ws=.error 1:=by
 cases ws with
 |nil=>exact absurd rfl ok.ne
 |cons k r=>
  have hg:(k::r).getD 0 []=k:=rfl;unfold fZ at h;rw[hg]at h;by_cases h1:k=text "role"
  ·rw[af h1]at h;rw[h1,abg]
   match r,h with
   |[],_=>rfl
   |[n],h=>
    show(if isName n=false then _ else _)=_;have:isName n=false:=h;rw[af this]
   |_::_::_,_=>rfl
  ext H;by_cases h2:k=text "person"
  ·rw[af h2]at h;rw[h2,abh]
   match r,h with
   |[],_=>rfl
   |n::l,h=>
    have:(n::l).all isName=false:=by refine Od λq=>?_;have h:(decide (2<=(k::n::l).length)&&(n::l).all isName)=false:=h;rw[q,wG,adO]at h;simp at h
    show(if(n::l).all isName=false then _ else _)=_;rw[af this]
  rw[ae h2]at h;by_cases h3:k=text "step"
  ·rw[af h3]at h;rw[h3,abf]
   match r,h with
   |[],_=>rfl
   |[_],_=>rfl
   |n::b::l,h=>
    have:b≠text "by"∨l.isEmpty=true∨(n::l).all isName=false:=by
     refine Hm λq=>?_;have q1:b=text "by":=Hm λz=>q (.inl z);have q2:l≠[]:=λz=>q (.inr (.inl (Ha.mpr z)));have q3:(n::l).all isName=true:=by
      cases z:(n::l).all isName with
      |true=>rfl
      |false=>exact absurd ZoK q
     have h:(decide (4<=(k::n::b::l).length)&&(isName n&&(decide (b=text "by")&&l.all isName)))=false:=h;rw[hZ,aP]at q3;have hl:4<=(k::n::b::l).length :=by have:=sX.mpr q2;simp only[bb];omega
     rw[bu hl,bu q1,q3.1,q3.2]at h;cases h
    show(if b≠text "by"∨l.isEmpty=true∨(n::l).all isName=false then _ else _)=_;rw[af this]
  rw[ae h3]at h;have pair:∀i,(k=text "after"∨k=text "unlike"∨k=text "alike")->(match r with |[a,b]=>UH i a b|_=>Except.error 1)=Except.error 1:=λi hk=>by
   rw[af hk]at h
   match r,h with
   |[],_=>rfl
   |[_],_=>rfl
   |[a,b],h=>
    refine aiF ?_;have h:(isName a&&(isName b&&true))=false:=h;rw[wG]at h;exact h
   |_::_::_::_,_=>rfl
  by_cases h4:k=text "after"
  ·have:=pair 0 (.inl h4);rw[h4,abk];ext d
  by_cases h5:k=text "unlike"
  ·have:=pair 1 (.inr (.inl h5));rw[h5,abe];ext d
  by_cases h6:k=text "alike"
  ·have:=pair 2 (.inr (.inr h6));rw[h6,abj];ext d
  rw[ae (λq=>q.elim h4 λq=>q.elim h5 h6)]at h;by_cases h7:k=text "most"
  ·rw[af h7]at h;rw[h7,abi]
   match r,h,ok with
   |[],_,_=>rfl
   |[_],_,_=>rfl
   |[a,n],h,ok=>
    have h:(isName a&&gB n)=false:=h;show(if isName a=false then _ else _)=_;by_cases ha:isName a=false
    ·rw[af ha]
    ·rw[ae ha];have hm:gB n=false:=by
      cases z:isName a with
      |false=>exact ZaX ha
      |true=>
       rw[z,fm]at h;exact h
     cases e:numOf n with
     |none=>rfl
     |some m=>
      show(if 99<m then _ else _)=_;rw[af (akB hm m e)]
   |_::_::_::_,_,_=>rfl
  ·exact alo P k r h1 h2 h3 h4 h5 h6 h7
end
section
open Vbwbal (Plan Bytes Choice splitBy wordsOf letter digit isName numOf lineOf text stepNames personNames indexOf rolesOf before pairLine)
def jR(P:Plan)(ws:Zz):Plan:=
 if ws.getD 0 []=text "role"then{P with roles:=P.roles++[ws.getD 1 []]}
 else if ws.getD 0 []=text "person"then{P with persons:=P.persons++[⟨ws.getD 1 [],e_ ((ws.drop 2).map (fS P)),99⟩]}
 else if ws.getD 0 []=text "step"then{P with steps:=P.steps++[⟨ws.getD 1 [],e_ ((ws.drop 3).map (fS P))⟩]}
 else if ws.getD 0 []=text "most"then{P with persons:=P.persons.map λx=>if x.name==ws.getD 1 []then{x with most:=gg (ws.getD 2 [])}else x}
 else if ws.getD 0 []=text "after"then{P with after:=P.after++[bP P ws]}
 else if ws.getD 0 []=text "unlike"then{P with unlike:=P.unlike++[bP P ws]}
 else{P with alike:=P.alike++[bP P ws]}
theorem aaV{P:Plan}(wf:ZF)(ns:Zz)(most:Nat)(w:Bytes)(l:Zz){α:Type}(f:Za->Zgh α)(hm:ns.length<=most):
  (if ns.contains w=true then(Except.error 2 :Zgh α)else match rolesOf P l with | .error e=>.error e| .ok x=>if most<=ns.length then .error 5 else f x)=
  if jq ns most w P.roles l=0 then f (e_ (l.map Wh))else .error (jq ns most w P.roles l):=by
 unfold jq;by_cases h1:ns.contains w=true
 ·simp only[af h1];rfl
 ·simp only[ae h1];by_cases h2:(l.all λx=>Zit)=false
  ·simp only[af h2];have:∃n∈l,n∉P.roles:=by refine Hm λq=>?_;have:(l.all λx=>Zit)=true:=dh.mpr λx hx=>bx.mpr (Hm λz=>q ⟨x,hx,z⟩);rw[this]at h2;cases h2
   rw[TJ l this];rfl
  ·simp only[ae h2];have:∀n∈l,n∈P.roles:=λn hn=>by
    have h3:(l.all λx=>Zit)=true:=by
     cases z:(l.all λx=>Zit)with
     |true=>rfl
     |false=>exact ZaX h2
    exact bx.mp (dh.mp h3 n hn)
   rw[TH wf.roles l this];show(if most<=ns.length then _ else _)=_;by_cases h4:ns.length=most
   ·simp only[af h4];rw[af Zb];rfl
   ·simp only[ae h4];rw[ae Zb];rfl
theorem EH{P:Plan}{w:Bytes}(h:(stepNames P).contains w=true):Y0 w<P.steps.length:=by have h1:w∈stepNames P:=bx.mp h;have:Y0 w<(stepNames P).length :=Hc ⟨w,h1,Zh⟩;unfold Vbwbal.stepNames at this;rw[aq]at this;exact this
theorem AH(P:Plan)(k a b:Bytes)(rb:Bool):kindB P [k,a,b] rb=if((stepNames P).contains a&&(stepNames P).contains b)=false then 3 else if(bP P [k,a,b]).1=(bP P [k,a,b]).2 then 4 else if(Xt k).contains (bP P [k,a,b])=true then 2 else if(decide (k=text "after")&&rb)=true then 4 else if(Xt k).length =12 then 5 else 0:=rfl
theorem An(P:Plan)(a b:Bytes):bP P [text "after",a,b]=(Y0 a,W2):=af rfl
theorem Am(P:Plan)(k a b:Bytes)(h:k≠text "after"):bP P [k,a,b]=(min ZaT W2,max ZaT W2):=ae h
theorem aiG(P:Plan)(o5:Nat)(a b:Bytes)(hn:ZvW)(ha:ZuK)(hb:ZuL):UH o5 a b=if bK P a=Y0 b then .error 4
  else if o5=0 then(if P.after.contains (Y0 a,W2)=true then .error 2 else if(before P.after 8 [Y0 b]).contains ZaT=true then .error 4 else if 12<=P.after.length then .error 5 else .ok {P with after:=P.after++[(bK P a,bK P b)]})
  else if o5=1 then(if(P.unlike.contains Zhl)=true then .error 2 else if 12<=P.unlike.length then .error 5 else .ok {P with unlike:=P.unlike++[(min (bK P a) (bK P b),max (bK P a) (bK P b))]})
  else(if(P.alike.contains Zhl)=true then .error 2 else if 12<=P.alike.length then .error 5 else .ok {P with alike:=P.alike++[(min (bK P a) (bK P b),max (bK P a) (bK P b))]}):=by
 unfold pairLine;rw[ae (by rw[hn];simp),Li ha,Li hb];rfl
theorem Km(P:Plan)(wf:ZF)(rb:Bool)(k a b:Bytes)(ij:yZ P [k,a,b] rb)(hn:ZvW)(o5:Nat)
  (hk:(k=text "after"/\o5=0)∨(k=text "unlike"/\o5=1)∨(k=text "alike"/\o5=2)):
  pairLine P o5 a b=if kindB P [k,a,b] rb=0 then .ok (if k=text "after"then{P with after:=P.after++[bP P [k,a,b]]}else if k=text "unlike"then{P with unlike:=P.unlike++[bP P [k,a,b]]}else{P with alike:=P.alike++[bP P [k,a,b]]})else ZhH:=by
 have err:∀(n:Nat) (X:Zgh Plan),n≠0->kindB P [k,a,b] rb=n->(if kindB P [k,a,b] rb=0 then X else ZhH)=.error n:=λn X h0 e=>by rw[e,ae h0]
 have eok:∀(X:Zgh Plan),kindB P [k,a,b] rb=0->(if kindB P [k,a,b] rb=0 then X else ZhH)=X:=λX e=>by rw[af e]
 by_cases hc:((stepNames P).contains a&&(stepNames P).contains b)=false
 ·rw[err 3 _ Zk (by rw[AH,af hc])];unfold pairLine;rw[ae (by rw[hn];simp)];rw[zy]at hc;rcases hc with h|h
  ·rw[Lh h]
  ·rw[Lh h];cases indexOf Zjp a<;>rfl
 ·have fI:(stepNames P).contains a=true/\(stepNames P).contains b=true:=by
   rw[←aP];cases z:((stepNames P).contains a&&(stepNames P).contains b)with
   |true=>rfl
   |false=>exact ZaX hc
  have la:=EH fI.1;have lb:=EH fI.2;rw[aiG P o5 a b hn fI.1 fI.2];have other:∀(l:ZV) (X:Zgh Plan),k≠text "after"->Xt k=l->l.length<=12->Y0 a≠Y0 b->
    (if(l.contains Zhl)=true then .error 2 else if 12<=l.length then .error 5 else X)=if kindB P [k,a,b] rb=0 then X else ZhH:=λl X j0 hl hlen h1=>by
   have ek:=AH P k a b rb;rw[ae hc,Zgf j0,hl,ae (show¬min ZaT W2=max ZaT W2 by omega),aX j0,gK]at ek;by_cases h2:l.contains Zhl=true
   ·ext cI
   ·rw[ae h2];rw[ae h2,ae Zk]at ek;by_cases h3:l.length=12
    ·rw[af h3]at ek;rw[af Zb];exact(err 5 _ Zk ek).symm
    ·rw[ae h3]at ek;rw[ae Zb];exact(eok _ ek).symm
  by_cases h1:Y0 a=Y0 b
  ·rw[af h1];have ek:=AH P k a b rb;rw[ae hc]at ek;have Bn:(bP P [k,a,b]).1=(bP P [k,a,b]).2:=by
    by_cases j0:k=text "after"
    ·rw[j0,An];exact h1
    ·rw[Zgf j0];show min _ _=max _ _;omega
   rw[af Bn]at ek;exact(err 4 _ Zk ek).symm
  ·rw[ae h1];rcases hk with⟨hk,rfl⟩|⟨hk,rfl⟩|⟨hk,rfl⟩
   ·rw[af rfl];subst hk;rw[af rfl,An];have et:Xt Zfw=P.after:=af rfl;have ek:=AH P Zfw a b rb;rw[ae hc,An,et,ae (show¬(Y0 a,W2).1=(Y0 a,W2).2 from h1),bu rfl,fm]at ek;by_cases h2:P.after.contains (Y0 a,W2)=true
    ·ext cI
    ·rw[ae h2];rw[ae h2]at ek;have hb:=arE (ps:=P.after) (λy hy=>by have:=(XE Zgu).2;have:=wf.steps;omega) (j:=W2) (by have:=wf.steps;omega) ZaT
     have hr:=ij rfl fI.1 fI.2;rw[An]at hr;by_cases h3:rb=true
     ·rw[af h3]at ek;rw[af (hb.mpr (hr.mp h3))];exact(err 4 _ Zk ek).symm
     ·rw[ae h3]at ek;rw[ae λz=>h3 (hr.mpr (hb.mp z))];have hlen:=wf.after;by_cases h5:P.after.length=12
      ·rw[af h5]at ek;rw[af Zb];exact(err 5 _ Zk ek).symm
      ·rw[ae h5]at ek;rw[ae Zb];exact(eok _ ek).symm
   ·have j0:k≠text "after":=by rw[hk];exact ED
    rw[ae Zk,af rfl,ae j0,af hk,Zgf j0];exact other P.unlike _ j0 (by unfold toldOf;rw[ae j0,af hk]) wf.unlike h1
   ·have j0:k≠text "after":=by rw[hk];exact EF
    have hku:k≠text "unlike":=by rw[hk];exact EE
    rw[ae Zk,ae Zk,ae j0,ae hku,Zgf j0];exact other P.alike _ j0 (by unfold toldOf;rw[ae j0,ae hku]) wf.alike h1
theorem names2{a b:Bytes}(h:([a,b].all isName)=true):(isName a&&isName b)=true:=by rw[hZ,hZ,List.all_nil,wG]at h;exact h
theorem abp(P:Plan)(wf:ZF)(ws:Zz)(ok:oP ws)(rb:Bool)(ij:yZ P ws rb)(hf:fZ ws=true):
  lineOf P ws=if iC P ws rb=0 then .ok (jR P ws)else .error (iC P ws rb):=by
 ext bf;have Fm:=hf;unfold fZ at hf;unfold iC jR;have su:¬fZ ws=false:=by rw[Fm];simp
 simp only[ae su];ext ai
 ·ext bk;rw[af h1,aP]at hf;simp only[af h1];ext bu;have hb:isName b=true:=hf.2;rw[ha,abg];ext dz;rw[ae (by rw[hb];simp)];show(if P.roles.contains b=true then _ else _)=if jq P.roles 8 b P.roles []=0 then Except.ok {P with roles:=P.roles++[b]}else .error (jq P.roles 8 b P.roles [])
  unfold jq;have hlen:=wf.roles;by_cases h2:P.roles.contains b=true
  ·rw[af h2];simp only[af h2];rfl
  ·rw[ae h2];simp only[ae h2];by_cases h3:P.roles.length=8
   ·rw[af Zb];simp[h3]
   ·rw[ae Zb];simp[h3]
 simp only[ae h1]at hf⊢;ext S
 ·ext be;rw[af h2,aP]at hf;simp only[af h2];ext bo;have hb:(b::l).all isName=true:=hf.2;rw[ha,abh];show(if(b::l).all isName=false then _ else _)=_;rw[ae (by rw[hb];simp)];ext ct;have:=aaV wf Zi4 7 b l (λx=>Except.ok {P with persons:=P.persons++[(⟨b,x,99⟩:Vbwbal.Person)]}) (by rw[hlen];exact wf.persons);rw[hlen]at this;ext d
 simp only[ae h2]at hf⊢;ext T
 ·ext a8;rw[af h3,aP,aP,aP]at hf;simp only[af h3];ext bv;have hb:isName b=true:=hf.2.1;have hc:c=text "by":=lW hf.2.2.1;have hd:(d::l).all isName=true:=hf.2.2.2;rw[ha,abf];show(if c≠text "by"∨(d::l).isEmpty =true∨(b::d::l).all isName=false then _ else _)=_;rw[ae (by
   rintro(q|q|q)
   ·exact q hc
   ·cases q
   ·rw[hZ,hb,hd]at q;cases q)]
  ext cE;have:=aaV wf Zjp 7 b (d::l) (λx=>Except.ok {P with steps:=P.steps++[(⟨b,x⟩:Vbwbal.Step)]}) (by rw[hlen];exact wf.steps);rw[hlen]at this;ext d
 simp only[ae h3]at hf⊢;ext ak
 ·ext bd;simp only[af h4];ext bt;have hn:¬([a,b,c].getD 0 []=text "after"∨[a,b,c].getD 0 []=text "unlike"∨[a,b,c].getD 0 []=text "alike"):=by
   rw[h4];rintro(q|q|q)
   ·exact AF q
   ·exact AD q
   ·exact AE q
  rw[ae hn,af h4,aP,aP]at hf;have hb:isName b=true:=hf.2.1;have hc:gB c=true:=hf.2.2;have yj:c≠[]:=(ok.word c Zh).1;obtain⟨e1,e2⟩:=aaO yj hc;rw[ha,abi];ext dz;rw[ae (by rw[hb];simp),e1];show(if 99<gg c then _ else _)=if(if(personNames P).contains b=true then 0 else 3)=0 then Except.ok {P with persons:=P.persons.map λ(x:Vbwbal.Person)=>if x.name==b then{x with most:=gg c}else x}else .error (if(personNames P).contains b=true then 0 else 3)
  rw[ae Zb];by_cases h5:(personNames P).contains b=true
  ·rw[Li h5];simp only[af h5];rfl
  ·rw[Lh (Od h5)];simp only[ae h5];rfl
 simp only[ae h4];ext ar;rw[af g1,aP]at hf;ext bm;have hn:(isName b&&isName c)=true:=names2 hf.2;ext co;rcases Nk with q|q|q
 ·have:=ZmU 0 (.inl Zj1);rw[show lineOf P [a,b,c]=UH 0 b c by rw[q,abk]];ext d
 ·have:=ZmU 1 (.inr (.inl Zj1));rw[show lineOf P [a,b,c]=UH 1 b c by rw[q,abe]];ext d
 ·have:=ZmU 2 (.inr (.inr Zj1));rw[show lineOf P [a,b,c]=UH 2 b c by rw[q,abj]];ext d
end
section
open Vbwbal (Plan Bytes Choice splitBy wordsOf letter digit isName numOf lineOf text stepNames personNames indexOf rolesOf before pairLine readFrom)
theorem KH{w:Bytes}(h:ZpR):w.length<=12:=by unfold isName at h;rw[aP,aP,bX]at h;exact h.2.2
theorem As{ns:Zz}{most:Nat}{w:Bytes}{ks xs:Zz}(h:jq ns most w ks xs=0):w∉ns/\(∀x∈xs,x∈ks)/\ns.length≠most:=by
 unfold jq at h;by_cases h1:ns.contains w=true
 ·ext aE
 ext H;by_cases h2:(xs.all λx=>Ux)=false
 ·ext aF
 rw[ae h2]at h;by_cases h3:ns.length=most
 ·ext aG
 refine⟨λq=>h1 (bx.mpr q),λx hx=>?_,h3⟩;have h4:(xs.all λx=>Ux)=true:=by
  cases z:(xs.all λx=>Ux)with
  |true=>rfl
  |false=>exact ZaX h2
 exact bx.mp (dh.mp h4 x hx)
theorem adK(rs:Za):(e_ rs).length <=8:=by unfold e_;exact Zbc
theorem TF{P:Plan}(wf:ZF){l:Zz}(h:∀x∈l,x∈P.roles):∀r∈e_ (l.map Wh),r<P.roles.length:=λr hr=>by
 have bG:∀x∈l.map Wh,x<P.roles.length:=λx hx=>by obtain⟨n,hn,rfl⟩:=Zg1;exact JY (h n hn)
 have h8:=wf.roles;rw[NM (λx hx=>by have:=bG x hx;omega)]at hr;exact bG r hr
theorem xK{P:Plan}{k a b:Bytes}{rb:Bool}(h:kindB P [k,a,b] rb=0):(stepNames P).contains a=true/\(stepNames P).contains b=true/\(bP P [k,a,b]).1≠(bP P [k,a,b]).2/\(Xt k).length ≠12:=by
 rw[AH]at h;by_cases h1:((stepNames P).contains a&&(stepNames P).contains b)=false
 ·ext aE
 ext H;by_cases h2:(bP P [k,a,b]).1=(bP P [k,a,b]).2
 ·ext aF
 rw[ae h2]at h;by_cases h3:(Xt k).contains (bP P [k,a,b])=true
 ·ext aG
 rw[ae h3]at h;by_cases h4:(decide (k=text "after")&&rb)=true
 ·rw[af h4]at h;cases h
 rw[ae h4]at h;by_cases h5:(Xt k).length =12
 ·rw[af h5]at h;cases h
 have h6:((stepNames P).contains a&&(stepNames P).contains b)=true:=by
  cases z:((stepNames P).contains a&&(stepNames P).contains b)with
  |true=>rfl
  |false=>exact ZaX h1
 rw[aP]at h6;exact⟨h6.1,h6.2,h2,h5⟩
theorem Kn{P:Plan}{k a b:Bytes}(h1:ZuK)(h2:ZuL):(bP P [k,a,b]).1<P.steps.length/\(bP P [k,a,b]).2<P.steps.length:=by
 have la:=EH h1;have lb:=EH h2;by_cases hk:k=text "after"
 ·rw[hk,An];exact⟨la,lb⟩
 ·rw[Zgf hk];ext b
  ·show min _ _<_;omega
  ·show max _ _<_;omega
theorem abq{P:Plan}{ws:Zz}{rb:Bool}(h:iC P ws rb=0):fZ ws=true:=by
 cases e:fZ ws with
 |true=>rfl
 |false=>
  unfold iC at h;rw[af e]at h;cases h
inductive Told(P:Plan)(ws:Zz):Prop
 |role (n:Bytes) (e:ws=[text "role",n]) (hn:isName n=true) (h:jq P.roles 8 n P.roles []=0) (t:jR P ws={P with roles:=P.roles++[n]})
 |person (n:Bytes) (l:List Bytes) (e:ws=text "person"::n::l) (hn:isName n=true) (h:jq (personNames P) 7 n P.roles l=0) (t:jR P ws={P with persons:=P.persons++[⟨n,e_ (l.map (fS P)),99⟩]})
 |step (n:Bytes) (l:List Bytes) (e:ws=text "step"::n::text "by"::l) (hn:isName n=true) (h:jq (stepNames P) 7 n P.roles l=0) (t:jR P ws={P with steps:=P.steps++[⟨n,e_ (l.map (fS P))⟩]})
 |most (n w:Bytes) (e:ws=[text "most",n,w]) (hw:gB w=true) (h:n∈personNames P) (t:jR P ws={P with persons:=P.persons.map λx=>if x.name==n then{x with most:=gg w}else x})
 |after (a b:Bytes) (e:ws=[text "after",a,b]) (h:∃rb,kindB P ws rb=0) (t:jR P ws={P with after:=P.after++[bP P ws]})
 |unlike (a b:Bytes) (e:ws=[text "unlike",a,b]) (h:∃rb,kindB P ws rb=0) (t:jR P ws={P with unlike:=P.unlike++[bP P ws]})
 |alike (a b:Bytes) (e:ws=[text "alike",a,b]) (h:∃rb,kindB P ws rb=0) (t:jR P ws={P with alike:=P.alike++[bP P ws]})
theorem agM{P:Plan}{ws:Zz}{rb:Bool}(h:iC P ws rb=0):Told P ws:=by
 have hf:=abq h;ext bf;have su:¬fZ ws=false:=by rw[hf];simp
 have ht:jR P ws=jR P ws:=rfl;unfold iC at h;rw[ae su]at h;unfold fZ at hf
 conv at ht=>rhs;unfold jR
 ext ai
 ·rw[af h1]at h hf ht;ext bk;rw[aP]at hf;ext bu;exact .role b Zqx hf.2 h ht
 rw[ae h1]at h hf ht;ext S
 ·rw[af h2]at h hf ht;ext be;rw[aP]at hf;ext bo;have hn:(b::l).all isName=true:=hf.2;rw[hZ,aP]at hn;exact .person b l Zqx hn.1 h ht
 rw[ae h2]at h hf ht;ext T
 ·rw[af h3]at h hf ht;ext a8;rw[aP,aP,aP]at hf;ext bv;have hc:c=text "by":=lW hf.2.2.1;exact .step b (d::l) (by rw[ha,hc]) hf.2.1 h ht
 rw[ae h3]at h hf ht;ext ak
 ·rw[af h4]at h ht;ext bd;ext bt;have hn:¬([a,b,c].getD 0 []=text "after"∨[a,b,c].getD 0 []=text "unlike"∨[a,b,c].getD 0 []=text "alike"):=by
   rw[h4];rintro(q|q|q)
   ·exact AF q
   ·exact AD q
   ·exact AE q
  rw[ae hn,af h4,aP,aP]at hf;refine .most b c Zqx hf.2.2 ?_ ht;by_cases q:(personNames P).contains b=true
  ·exact bx.mp q
  ·have h:(if(personNames P).contains b=true then 0 else 3)=0:=h;rw[ae q]at h;cases h
 rw[ae h4]at h ht;ext ar;ext bm;ext co;rcases Nk with q|q|q
 ·subst q;exact .after b c rfl ⟨rb,h⟩ (ht.trans ZaN)
 ·subst q;exact .unlike b c rfl ⟨rb,h⟩ (ht.trans Zxz)
 ·subst q;exact .alike b c rfl ⟨rb,h⟩ (ht.trans ((ae EF).trans (ae EE)))
theorem agt:Wf Vbwbal.empty where
 roles:=by decide
 persons:=by decide
 steps:=by decide
 after:=by decide
 unlike:=by decide
 alike:=by decide
 gd:=λy h=>by rcases h with h|h|h<;>cases h
 ne:=λy h=>by rcases h with h|h|h<;>cases h
 eF:=λx h=>by cases h
 mT:=λx h=>by cases h
 qQ:=λx h=>by cases h
 rj:=λx h=>by cases h
 wW:=λx h=>by cases h
 uk:=λx h=>by cases h
 pF:=λx h=>by cases h
 tZ:=λx h=>by cases h
 xm:=sV
theorem kq{α:Type}{l:ZN}{a x:α}(h:x∈l++[a]):x∈l∨x=a:=by
 rcases b8.mp h with q|q
 ·exact Wc
 ·exact .inr Zkq
theorem ags{P:Plan}(wf:ZF){ws:Zz}(t:Told P ws):Wf (jR P ws):=by
 cases t with
 |role n e hn h t=>
  ext bh;have hl:=wf.roles;have hle:∀r,r<P.roles.length->r<(P.roles++[n]).length :=λr hr=>by rw[bS];omega
  exact{wf with
   roles:=by rw[bS];show P.roles.length+1<=8;omega
   rj:=λx hx r hr=>hle r (wf.rj x hx r hr)
   wW:=λx hx r hr=>hle r (wf.wW x hx r hr)
   uk:=λm hm=>(kq hm).elim (wf.uk m) λq=>by rw[q];exact KH hn}
 |person n l e hn h t=>
  ext bh;have hl:=wf.persons;ext ct;exact{wf with
   persons:=by rw[bS];show P.persons.length+1<=7;omega
   eF:=λx hx=>(kq hx).elim (wf.eF x) λq=>by rw[q];exact ZA
   mT:=λx hx=>(kq hx).elim (wf.mT x) λq=>by rw[q];exact adK _
   rj:=λx hx r hr=>(kq hx).elim (λq=>wf.rj x q r hr) λq=>by rw[q]at hr;exact TF wf h2 r hr
   pF:=λx hx=>(kq hx).elim (wf.pF x) λq=>by rw[q];exact KH hn
   xm:=by
    rw[cA];refine mx.mpr ⟨wf.xm,Zh,λa ha b hb q=>h1 ?_⟩;have:b=n:=by simpa using hb
    rw[←this,←q];exact ha}
 |step n l e hn h t=>
  ext bh;have hl:=wf.steps;ext cE;exact{wf with
   steps:=by rw[bS];show P.steps.length+1<=7;omega
   gd:=λy hy=>by have:=XE hy;rw[bS];exact⟨Zb,Zb⟩
   qQ:=λx hx=>(kq hx).elim (wf.qQ x) λq=>by rw[q];exact adK _
   wW:=λx hx r hr=>(kq hx).elim (λq=>wf.wW x q r hr) λq=>by rw[q]at hr;exact TF wf h2 r hr
   tZ:=λx hx=>(kq hx).elim (wf.tZ x) λq=>by rw[q];exact KH hn}
 |most n w e hw h t=>
  rw[t];have hm:∀x,x∈(P.persons.map λx=>if x.name==n then{x with most:=gg w}else x)->∃y∈P.persons,x.name=y.name/\x.roles=y.roles/\(x.most=y.most∨x.most=gg w):=λx hx=>by
   obtain⟨y,hy,rfl⟩:=Zg1;refine⟨y,hy,?_⟩;cases y.name==n
   ·exact⟨rfl,rfl,.inl rfl⟩
   ·exact⟨rfl,rfl,.inr rfl⟩
  have en:(P.persons.map λx=>if x.name==n then{x with most:=gg w}else x).map (λx=>x.name)=P.persons.map λx=>x.name:=by rw[bz];refine gv λy hy=>?_;show(if y.name==n then{y with most:=gg w}else y).name =y.name;cases y.name==n<;>rfl
  have h99:gg w<=99:=by
   by_cases q:w=[]
   ·rw[q];decide
   ·exact(aaO q hw).2
  exact{wf with
   persons:=by rw[aq];exact wf.persons
   eF:=λx hx=>by
    obtain⟨y,hy,_,_,e⟩:=hm x hx;rcases e with e|e
    ·rw[e];exact wf.eF y hy
    ·rw[e];exact h99
   mT:=λx hx=>by obtain⟨y,hy,_,e,_⟩:=hm x hx;rw[e];exact wf.mT y hy
   rj:=λx hx r hr=>by obtain⟨y,hy,_,e,_⟩:=hm x hx;rw[e]at hr;exact wf.rj y hy r hr
   pF:=λx hx=>by obtain⟨y,hy,e,_,_⟩:=hm x hx;rw[e];exact wf.pF y hy
   xm:=by rw[en];exact wf.xm}
 |after a b e h t=>
  ext aX;obtain⟨l1,l2⟩:=Kn (k:=Zfw) h1 h2;have h4:P.after.length≠12:=h4;have hl:=wf.after;exact{wf with
   after:=by rw[bS];show P.after.length+1<=12;omega
   gd:=λy hy=>by
    rcases hy with q|q
    ·rcases kq q with q|q
     ·exact XE Wc
     ·rw[q];exact⟨l1,l2⟩
    ·exact XE (.inr q)
   ne:=λy hy=>by
    rcases hy with q|q
    ·rcases kq q with q|q
     ·exact VY Wc
     ·rw[q];exact h3
    ·exact wf.ne y (.inr q)}
 |unlike a b e h t=>
  ext aX;obtain⟨l1,l2⟩:=Kn (k:=Zi5) h1 h2;have h4:P.unlike.length≠12:=by have et:Xt Zi5=P.unlike:=(ae ED).trans ZaN;rw[←et];exact h4
  have hl:=wf.unlike;exact{wf with
   unlike:=by rw[bS];show P.unlike.length+1<=12;omega
   gd:=λy hy=>by
    rcases hy with q|q|q
    ·exact XE Wc
    ·rcases kq q with q|q
     ·exact XE Zge
     ·rw[q];exact⟨l1,l2⟩
    ·exact XE ZiW
   ne:=λy hy=>by
    rcases hy with q|q|q
    ·exact VY Wc
    ·rcases kq q with q|q
     ·exact VY Zge
     ·rw[q];exact h3
    ·exact wf.ne y (.inr (.inr q))}
 |alike a b e h t=>
  ext aX;obtain⟨l1,l2⟩:=Kn (k:=Zjd) h1 h2;have h4:P.alike.length≠12:=by have et:Xt Zjd=P.alike:=(ae EF).trans (ae EE);rw[←et];exact h4
  have hl:=wf.alike;exact{wf with
   alike:=by rw[bS];show P.alike.length+1<=12;omega
   gd:=λy hy=>by
    rcases hy with q|q|q
    ·exact XE Wc
    ·exact XE Zge
    ·rcases kq q with q|q
     ·exact XE ZiW
     ·rw[q];exact⟨l1,l2⟩
   ne:=λy hy=>by
    rcases hy with q|q|q
    ·exact VY Wc
    ·exact VY Zge
    ·rcases kq q with q|q
     ·exact VY ZiW
     ·rw[q];exact h3}
theorem alq{P:Plan}(wf:ZF){ws:Zz}(ok:oP ws){rb:Bool}(ij:yZ P Zby rb)(h:iC P Zby rb=0):Ww ws=.ok (jR P Zby):=by have hf:=abq h;rw[adj]at hf;have e:=adi hf;rw[e]at ij h⊢;rw[Zys hf,af h]
theorem alr{P:Plan}(wf:ZF){ws:Zz}(ok:oP ws){rb:Bool}(ij:yZ P Zby rb)(h:iC P Zby rb≠0):Ww ws=.error (iC P Zby rb):=by
 by_cases hf:fZ ws=true
 ·have e:=adi hf;rw[e]at ij h⊢;rw[Zys hf,ae h]
 ·have hf:=Od hf;rw[aot P ok hf];unfold iC;rw[adj,af hf]
end
section
open Vbwbal (Plan Bytes Choice signer load goesWith fits unsigned complete canEnd completion choose subsets choiceOf signed barred ready)
theorem agp{P:Plan}(wf:ZF):eJ {plan:=P,absent:=[],entries:=[]} where
 wf:=wf
 wc:=⟨λy h=>Ve,λy h=>Ve,sV,λx=>ZI⟩
 ab:=List.Pairwise.nil
 vS:=λx h=>by cases h
 vF:=ZI
 texts:=λe h=>by cases h
theorem aep{P:Plan}{ab:Za}{c:Choice}{s x:Nat}(h:Zbz s x=0):ZW s=none/\YO x=true:=by
 unfold barred at h;by_cases h1:(ZW s).isSome =true
 ·ext aE
 ext H;by_cases h2:ready P c s=false
 ·ext aF
 rw[ae h2]at h;by_cases h3:YD x=false
 ·ext aG
 rw[ae h3]at h;by_cases h4:YO x=false
 ·rw[af h4]at h;cases h
 refine Zgs
 ·cases e:ZW s with
  |none=>rfl
  |some y=>
   rw[e]at h1;exact absurd rfl h1
 ·cases e:YO x with
  |true=>rfl
  |false=>exact ZdV h4
theorem aqM(R:Rc)(s x:Nat):choiceOf {R with entries:=R.entries++[.sign s x]}=choiceOf R++[(s,x)]:=by show signed (R.entries++[.sign s x])=_;rw[Dd];rfl
theorem aqO(R:Rc)(e x:Nat)(t:Za):choiceOf {R with entries:=R.entries++[.amend e x t]}=choiceOf R:=by show signed (R.entries++[Zb4 x t])=_;rw[Dd];exact fc _
theorem ago{R:Rc}(w:eJ R){s x:Nat}(hs:s<R.plan.steps.length)(hx:Zw4)(hb:barred R.plan R.absent ZD s x=0):eJ {R with entries:=R.entries++[.sign s x]}:=by
 obtain⟨h1,h2⟩:=aep hb;have hl:load ZD x<cy R.plan x:=((nv _ _ _ _).mp h2).2.2;have hc:=aqM R s x;have hle:(choiceOf R).length <=R.entries.length:=O9 _ _;refine⟨w.wf,?_,w.ab,w.vS,?_,λe he=>?_⟩
 ·rw[hc];refine⟨λy hy=>?_,λy hy=>?_,?_,λy=>?_⟩
  ·rcases b8.mp hy with q|q
   ·exact w.wc.steps y q
   ·rw[bo.mp q];exact hs
  ·rcases b8.mp hy with q|q
   ·exact w.wc.persons y q
   ·rw[bo.mp q];exact hx
  ·rw[cA];refine mx.mpr ⟨w.wc.nd,Zh,λa ha b hb q=>?_⟩;have fi:b=s:=by simpa using hb
   rw[q,fi]at ha;exact zR.mp h1 ha
  ·have:=w.wc.room y;rw[rL];by_cases e:x=y
   ·ext x;exact hl
   ·rw[ae e];ext d
 ·rw[hc];have:=w.vF;show(R.entries++[_]).length -(choiceOf R++[(s,x)]).length <=40;rw[bS,bS];show R.entries.length+1-((choiceOf R).length +1)<=40;omega
 ·rcases b8.mp he with q|q
  ·exact w.texts e q
  ·rw[bo.mp q];exact ZI
theorem agq{R:Rc}(w:eJ R){e x:Nat}{t:Za}(ht:t.length<=60)(hf:R.entries.length-(choiceOf R).length <40):eJ {R with entries:=R.entries++[.amend e x t]}:=by
 have hc:=aqO R e x t;refine⟨w.wf,by rw[hc];exact w.wc,w.ab,w.vS,?_,λy hy=>?_⟩
 ·rw[hc];show(R.entries++[_]).length -_<=40;rw[bS];show R.entries.length+1-_<=40;omega
 ·rcases b8.mp hy with q|q
  ·exact w.texts y q
  ·rw[bo.mp q];exact ht
theorem agr{R:Rc}(w:eJ R){x:Nat}(hx:Zw4)(k:Int):eJ {R with absent:=if k=1 then Vbwbal.insert x R.absent else R.absent.filter λy=>y != x}:=by
 refine⟨w.wf,w.wc,?_,λy hy=>?_,w.vF,w.texts⟩
 ·show List.Pairwise _ (if k=1 then _ else _);split
  ·exact EL x _ w.ab
  ·exact w.ab.filter _
 ·have hy:y∈(if k=1 then ZcP R.absent else R.absent.filter λy=>y != x):=hy;split at hy
  ·rcases(uX x R.absent y).mp hy with q|q
   ·rw[q];exact hx
   ·exact w.vS y q
  ·exact w.vS y (bD.mp hy).1
theorem contains_insert(ab:Za)(x y:Nat):(ZcP ab).contains y=if y=x then true else Zjh:=by
 by_cases h:y=x
 ·rw[af h,bx];exact(uX x ab y).mpr XQ
 ·rw[ae h,iS,bx,bx,uX];exact⟨λq=>q.resolve_left h,.inr⟩
theorem aqB(ab:Za)(x y:Nat):(ab.filter λz=>z != x).contains y=if y=x then false else Zjh:=by
 by_cases h:y=x
 ·rw[af h];refine af0.mpr λq=>?_;have:=(bD.mp (bx.mp q)).2;rw[h]at this;simp at this
 ·rw[ae h,iS,bx,bx,bD];exact⟨λq=>q.1,λq=>⟨q,Zoj⟩⟩
theorem N2:∀(k:Nat) (l ch:Za),ch∈Wu l->ch.Sublist l
 |0,l,ch,h=>by rw[nA,bo]at h;subst h;exact List.nil_sublist l
 |k+1,[],ch,h=>by cases h
 |k+1,x::r,ch,h=>by
  rcases b8.mp h with h|h
  ·ext bw;exact(N2 k r c hc).cons_cons x
  ·exact(N2 YQ r ch h).cons x
theorem ag8{l ch:Za}(h:Zpq):ch.Sublist l:=by unfold subsets at h;obtain⟨k,_,h⟩:=wg.mp h;exact N2 k l ch h
theorem ad9:∀l:List Nat,l∈choose l.length l
 |[]=>by rw[jM,nA];exact bo.mpr rfl
 |x::r=>mz _ (aN.mpr ⟨r,ad9 r,rfl⟩)
theorem Qr(l:Za):l∈subsets l:=by unfold subsets;exact wg.mpr ⟨l.length,dS.mpr (Cf _),ad9 l⟩
theorem aqC(P:Plan)(ab:Za)(c:Choice)(aK:Zba)(hl:Ze6){l m:Za}(hm:m.Nodup)(hs:∀s∈m,ZW s=none)(gj:l.Sublist m)
  (h:(YW m c).isSome =true):(YW l c).isSome =true:=by
 rw[←yQ,←ue P ab _ aK m c hm hs hl]at h;rw[←yQ,←ue P ab _ aK l c (gj.nodup hm) (λs q=>hs s (gj.subset q)) hl];obtain⟨g,hg⟩:=h;have hk:∀s,s∈keys (Wd Zbp l c)->s∈keys (Wd Zbp m c):=λs q=>by rw[uT]at q⊢;exact gj.subset q
 refine⟨g,λp hp=>?_,λs t h1 h2 h3=>ZcX (hk s h2) (hk t h3),λs t h1 h2 h3=>UB h1 (hk s h2) (hk t h3),λx=>?_⟩
 ·ext bl;exact hg.opt _ (aN.mpr ⟨t,gj.subset ht,rfl⟩)
 ·have:=ZkJ;rw[uT]at this⊢;have h2:=gj.countP_le (p:=λs=>g s==x);omega
theorem aqA{P:Plan}{ab:Za}{c:Choice}(aK:Zba)(hl:Ze6)(h:Zcm c=true):ZiO c=none:=by
 unfold Vbwbal.core;refine Hd.mpr λl hm q=>?_;have:=aqC P ab c aK hl Vr (λs hs=>(xF.mp hs).2) (ag8 hm) h;cases e:YW l c with
 |none=>rw[e]at this;cases this
 |some v=>rw[e]at q;cases q
theorem aqz{P:Plan}{ab:Za}{c:Choice}(h:Zcm c=false):∃l,ZiO c=some l:=by
 cases e:ZiO c with
 |some l=>exact⟨l,rfl⟩
 |none=>
  unfold Vbwbal.core at e;have:=Hd.mp e _ (Qr Z7);unfold canEnd completion at h;cases e2:YW Z7 c with
  |none=>rw[e2]at this;exact absurd rfl this
  |some v=>rw[e2]at h;cases h
theorem akO{P:Plan}{ab:Za}{c:Choice}(h:Z9 c=[]):Ziu c=none:=by unfold Vbwbal.needed;refine Hd.mpr λl _ q=>?_;unfold canEnd completion at q;rw[h]at q;cases q
theorem akN{P:Plan}{ab:Za}{c:Choice}(h:Z9 c≠[]):∃l,Ziu c=some l:=by
 cases e:Ziu c with
 |some l=>exact⟨l,rfl⟩
 |none=>
  unfold Vbwbal.needed at e;have:=Hd.mp e _ (Qr _);refine absurd ?_ this;rw[wF];unfold canEnd completion;cases hu:Z9 c with
  |nil=>exact absurd hu h
  |cons s r=>
   have:complete P (ab++(List.range P.persons.length).filter λx=>!(ab.contains x)) Za3 c=none:=by
    unfold complete;refine afF.mpr λx hx=>?_;rw[ae];rw[aP];rintro⟨q,_⟩;have hp:=Nr q;have hm:x∈ab++(List.range P.persons.length).filter λx=>!(ab.contains x):=by
     by_cases hc:x∈ab
     ·exact mz _ hc
     ·refine je _ (bD.mpr ⟨hx,?_⟩);rw[wF];exact af0.mpr λz=>hc (bx.mp z)
    rw[bx.mpr hm]at hp;cases hp
   rw[this];rfl
end
end
section
open PySem PySem.Spec PyProof.Rows L2
open Vbwbal (Plan Bytes Choice)
local macro_rules | `(tactic| simp! [$xs,*]) => `(tactic| simp only [nR, tN, pf, mL, kR, ux, qX, tP, qM, tU, kS, tM, mN, kK, mM, tD, tG, wN, tC, tB, tX, tJ, tK, tW, tI, wO, tO, qI, tT, qL, qJ, qZ, qY, uu, rg, rh, jk, rI, uA, uf, tQ, mQ, uq, uv, tV, vA, uw, uz, ur, nS, pj, qH, tF, qW, tH, tL, wQ, wU, rV, rT, rW, AL, u4, rS, AK, uZ, tu, qN, rR, tw, rU, tE, qV, tS, tR, wV, nT, ph, qK, vC, vB, Nat.succ_eq_add_one, sG, uc, w9, w_, w8, V.str.injEq, ua, uH, lY, xO, yM, fold_succ, List.set_cons_zero, List.set_cons_succ, List.getElem?_cons_zero, List.getElem?_cons_succ, Option.some.injEq, exists_eq_left', exists_eq_left, exists_and_left, and_assoc, true_and, and_true, V.bl.injEq, HO.lst.injEq, HO.ins.injEq, HO.tup.injEq, V.ref.injEq, V.int.injEq, decide_true, decide_false, if_true, if_false, List.cons.injEq, Bool.false_eq_true, au, jh, exists_const, exists_eq', exists_eq, and_self, List.append_nil, List.nil_append, List.cons_append, List.append_assoc, L2.start, List.map_cons, List.map_nil, List.length_cons, List.length_nil, Nat.zero_add, Nat.reduceAdd, Nat.reduceSub, List.replicate_succ, List.replicate_zero, wipe, $xs,*])
section
open Vbwbal (text rolesOf indexOf isName stepNames personNames)
abbrev asz:Zc:=["plan","words"]
theorem RT:aV asz Gk (aA Jb):=Zl
structure nD(A:Ad)(H:Hp)(p:Addr)(i:aW)(L:VR):Prop where
 nd:i.aH.Nodup
 ins:YT p=some (Zf1 i.dx (mU i))
 pairs:YT i.d=some ZpA
 lists:∀(k:Nat) a,i.aH[k]? =some a->H a=some (.lst (L k))
structure BS(h:Hp)(L:VR)(P:Plan):Prop where
 roles:L 0=P.roles.map aE
 persons:L 1=P.persons.map λx=>ZdG
 steps:L 2=P.steps.map λx=>ZdG
 pr:∃rs:List Addr,L 3=rs.map V.ref/\Zlc Zux
 sr:∃rs:List Addr,L 4=rs.map V.ref/\Zlc Zu8
 eF:L 5=P.persons.map λx=>Zkc
 after:∃rs:List Addr,L 6=rs.map V.ref/\Zhb P.after
 unlike:∃rs:List Addr,L 7=rs.map V.ref/\Zhb P.unlike
 alike:∃rs:List Addr,L 8=rs.map V.ref/\Zhb P.alike
def lJ(A:Ad)(H:Hp)(p:Addr)(i:aW)(P:Plan):Prop:=∃L,ZfS/\BS YT L P
theorem nD.dO{A:Ad}{H:Hp}{p:Addr}{i:aW}{L:VR}(h:ZfS):jd H i.aH:=λb hb=>by obtain⟨k,hk,e⟩:=zj.mp hb;exact⟨_,h.lists k b (by rw[fP hk,e])⟩
theorem nD.same{A:Ad}{H H':Hp}{p:Addr}{i:aW}{L:VR}(s:Zd)(h:ZfS):nD A H' p i L:=
 have sc:=iy s h.dO
 ⟨h.nd,sc.at h.ins,sc.at h.pairs,λk a e=>s.at (h.lists k a e)⟩
theorem BS.same{h h':Hp}{L:VR}{P:Plan}(s:ah h h')(c:BS h L P):BS h' L P:=
 have f:∀{l:Ze} {ns:Yq},(∃rs:List Addr,l=rs.map V.ref/\Zlc ns)->∃rs:List Addr,l=rs.map V.ref/\Paired (λr (n:List Nat)=>h' r=some Zfj) rs ns:=λ⟨rs,e,q⟩=>Zt0;have g:∀{l:Ze} {ns:ZV},(∃rs:List Addr,l=rs.map V.ref/\Zhb ns)->∃rs:List Addr,l=rs.map V.ref/\Paired (λr (y:Nat×Nat)=>h' r=some Zmi) rs ns:=λ⟨rs,e,q⟩=>Zt0
 ⟨c.roles,c.persons,c.steps,f c.pr,f c.sr,c.eF,g c.after,g c.unlike,g c.alike⟩
theorem nD.yT{A:Ad}{H:Hp}{p:Addr}{i:aW}{L:VR}{P:Plan}(h:ZfS)(c:BS YT L P):Y4:=by have f:∀{a:Addr} {k:Nat} {ns:Yq},i.aH[k]? =some a->(∃rs:List Addr,L k=rs.map V.ref/\Paired (λr (n:List Nat)=>YT r=some Zfj) rs ns)->Za8 ns:=λe ⟨rs,e2,q⟩=>ZrG;have g:∀{a:Addr} {k:Nat} {ns:ZV},i.aH[k]? =some a->(∃rs:List Addr,L k=rs.map V.ref/\Paired (λr (y:Nat×Nat)=>YT r=some Zmi) rs ns)->U3 ns:=λe ⟨rs,e2,q⟩=>ZrG;exact⟨(dQ h.ins).1,by rw[h.lists 0 _ rfl,c.roles],by rw[h.lists 1 _ rfl,c.persons],by rw[h.lists 2 _ rfl,c.steps],by rw[h.lists 5 _ rfl,c.eF],(dQ h.pairs).1,f (k:=3) rfl c.pr,f (k:=4) rfl c.sr,g (k:=6) rfl c.after,g (k:=7) rfl c.unlike,g (k:=8) rfl c.alike⟩
def IM(L:VR)(k:Nat)(l:Ze):Nat->Ze:=λj=>if j=k then l else L j
theorem ahI{L:VR}{k j:Nat}{l:Ze}(h:j≠k):IM L k l j=L j:=ae h
theorem RD{L:VR}{k:Nat}{l:Ze}:IM L k l k=l:=af rfl
theorem nD.put{A:Ad}{H:Hp}{p a:Addr}{i:aW}{L:VR}{k:Nat}{l:Ze}(h:ZfS)(e:i.aH[k]? =some a):nD A (V7 UR) p i (IM L k l)/\cut (V7 UR) i.aH=Ua i.aH:=by
 have hc:cut (V7 UR) i.aH=Ua i.aH:=vI (bI e);refine⟨⟨h.nd,ZxU,by rw[hc];exact h.pairs,λj b q=>?_⟩,hc⟩;by_cases ej:j=k
 ·subst ej;rw[e]at q;cases q
  rw[au,RD]
 ·have hb:b≠a:=λz=>by subst z;obtain⟨hj,q1⟩:=iQ.mp q;obtain⟨hk,q2⟩:=iQ.mp e;exact ej ((afx (h₀:=hj) (h₁:=hk) h.nd).mp (q1.trans q2.symm))
  rw[ax hb,ahI ej];exact h.lists j b q
def QM(A:Ad):Sp:=λvs H Q _=>∃(p w:Addr) (i:aW) (P:Plan) (ws:Zz),vs=[.ref p,.ref w]/\Zgq P/\ZF/\YT w=some VD/\oP ws/\Told P ws/\
 ∀(H':Hp),Zak->ZjZ (jR P ws)->Q .ba H'
theorem al9(a:Nat):48<=a->a<=57->PySem.intText? ⟨#[a]⟩=some (((a-48 :Nat)):Int):=by
 have:∀a,a<58->48<=a->PySem.intText? ⟨#[a]⟩=some (((a-48 :Nat)):Int):=by decide+kernel
 exact λh1 h2=>this a Zb h1
theorem al8(a b:Nat):48<=a->a<=57->48<=b->b<=57->PySem.intText? ⟨#[a,b]⟩=some ((10*(a-48)+(b-48):Nat):Int):=by
 have:∀a,a<58->48<=a->∀b,b<58->48<=b->PySem.intText? ⟨#[a,b]⟩=some ((10*(a-48)+(b-48):Nat):Int):=by decide+kernel
 exact λh1 h2 h3 h4=>this a Zb h1 b Zb h3
theorem ama{w:Bytes}(hn:w≠[])(h:gB w=true):PySem.intText? Zm9=some ((gg w:Nat):Int):=by
 unfold gB at h;rw[aP,aP,bX]at h;obtain⟨h1,h2,_⟩:=h
 match w,hn,h1,h2 with
 |[a],_,_,h2=>
  rw[hZ,aP]at h2;have:=dg h2.1;rw[show(gg [a])=a-48 by show 10*0+(a-48)=_;omega];exact al9 a this.1 this.2
 |[a,b],_,_,h2=>
  rw[hZ,hZ,aP,aP]at h2;have q1:=dg h2.1;have q2:=dg h2.2.1;rw[show(gg [a,b])=10*(a-48)+(b-48) by show 10*(10*0+(a-48))+(b-48)=_;omega];exact al8 a b q1.1 q1.2 q2.1 q2.2
theorem ahE{ps:List Vbwbal.Person}{n:Bytes}{m:Nat}(hd:(ps.map λx=>x.name).Nodup)(hn:n∈ps.map λx=>x.name):
  (ps.map λx=>Zkc).set ((ps.map λx=>x.name).findIdx λy=>y==n) (nat m)=(ps.map λx=>if x.name==n then{x with most:=m}else x).map λx=>Zkc:=by
 induction ps with
 |nil=>cases hn
 |cons a r ih=>
  rw[cw]at hd hn;obtain⟨h1,h2⟩:=df.mp hd;rw[cw,cw,cw,List.findIdx_cons,cw];by_cases e:a.name=n
  ·have e':(a.name==n)=true:=by simp[e]
   rw[e'];simp only[cond_true,iD];rw[List.set_cons_zero];congr 1;rw[bz];refine gv λy hy=>?_;have:¬(y.name==n)=true:=λq=>h1 (by rw[e,←eq_of_beq q];exact ZxN)
   show nat y.most=nat (if(y.name==n)=true then{y with most:=m}else y).most;rw[ae this]
  ·have e':(a.name==n)=false:=by simpa using e
   rw[e'];simp only[cond_false,kf,i5];rw[List.set_cons_succ,ih h2 ((aJ.mp hn).resolve_left λq=>UC)]
section
variable {P:Program}{w:World}{K:PySem.W.Frag}{mg:Zx}{base:Heap}{A:Ad}
theorem ajc{f:Addr}{fd:FuncData}(T:Zm)(Fz:Zw "role_numbers" Gr 1 (QR A))(yE:Zv3)(F:Zo "tell" "tell" Jb f fd):X8 Gk (QM A):=by
 have nd:=RT.nd;refine F.ok RT Zj Zn
 ·ext am
 ·obtain⟨p,w,i,P,ws,rfl,⟨L,hL,hC⟩,wf,hw,ok,tl,k⟩:=h;ext j;ext bH;ext bc;have eG:=(dQ hw).1;ext aY;refine⟨_,(ak (bg Zab (ak Zyz) (ak (bg Zab (ao Zyz
   (ao (dU (WK Ym (aa (az Fz hr rfl (ZL ZlD)) ai)))
   (ak (dU (dq K dE ir iq gO (aD K (pv 0) rfl) (aa (bE T.ac7 rfl) ai)))))) (ak (bg (bN cS (bj (bF K) (pv 1) aR (λ_ _=>rfl)) cW (bB _)) (ao (dU (dq K dE ir iq gO (aD K (pv 0) rfl) (aa (bj (bF K) (pv 1) aR (λ_ _=>rfl)) ai)))
   (ak (dU (dq K dE ir iq gO (aD K (pv 0) rfl) (aa (az Fz hr rfl (aa (pv 0) (aa (mV (mO K) (pv 1) (kZ aR) pD) ai))) ai))))) (ak (bg (bN cS (bj (bF K) (pv 1) aR (λ_ _=>rfl)) cW (bB _)) (ak (Kf (xo aro (by rfl) T.aa3 arO (aa (bj (bF K) (pv 1) aR (λ_ _=>rfl)) ai)) (Ki (aD K (pv 0) rfl) (dq K dE Ga Oz (Ep K) (aD K (pv 0) rfl) (aa (bj (bF K) (pv 1) aR (λ_ _=>rfl)) ai)) set_list))) (ak (dU (dq K dE ir iq gO (jl hu (aD K (pv 0) rfl) (bj (bF K) (pv 1) aR (λ_ _=>rfl)) (λ_ _=>rfl)) (aa (az yE hr rfl (aa (pv 0) (aa (pv 1) ai))) ai)))))))))))),?_⟩
  ext a;refine Zwe;rw[eW];have iJ:=hL.yT hC;cases tl with
  |role n e hn h t=>
   ext G;rw[bu (show[text "role",n].getD 0 []=text "role"from rfl)];ext e;simp! [iJ.ins,T.bU,n1,n0,cQ iJ.roles];refine⟨_,UP,_,bQ (j:=1) rfl,_,hL.lists 0 _ rfl,by rw[hC.roles,aq];have:=wf.roles;omega,?_⟩;obtain⟨q1,c1⟩:=hL.put (k:=0) (a:=i.r) (l:=L 0++[aE n]) rfl;refine ZsS;rw[c1];exact⟨by rw[RD,hC.roles,cA];rfl,hC.persons,hC.steps,hC.pr,hC.sr,hC.eF,hC.after,hC.unlike,hC.alike⟩
  |person n l e hn h t=>
   ext G;rw[aX (show¬(text "person"::n::l).getD 0 []=text "role"from abJ)];ext k;rw[eW,bu (show(text "person"::n::l).getD 0 []=text "person"from rfl)];ext e;simp! [iJ.ins,T.bU,n2,k_,cQ iJ.persons];have cC:=wf.persons;have aC:=ok.len;refine⟨_,UP,_,bQ (j:=1) rfl,_,hL.lists 1 _ rfl,by rw[hC.persons,aq];omega,?_⟩;obtain⟨q1,c1⟩:=hL.put (k:=1) (a:=i.p) (l:=L 1++[aE n]) rfl;obtain⟨H1,fw⟩:∃H1,H1=ZH i.p (.lst (L 1++[aE n])):=Zs;ext cK;have AY:H1 i.pr=some (.lst (L 3)):=q1.lists 3 _ rfl;have Lw:H1 i.r=some ZeY:=by rw[←hC.roles];exact q1.lists 0 _ rfl
   have gQ:H1 w=some (.lst Zt2):=(dQ (by rw[c1];exact hw)).1;refine⟨_,_,_,vg,T.bU,n4,_,DY i,cQ AY,_,ZbY,λa1 j6=>?_⟩;obtain⟨H2,fL⟩:∃H2,H2=Yr a1 (.lst (ja Zt2 (some 2) none)):=Zs;have s2:YH H2:=by rw[fL];exact a0 j6
   have jF:H2 a1=some ZlI:=by rw[fL,au];exact cb Zh1 (BE _ 2)
   ext bF;have amG:(L 3).length <=7:=by obtain⟨rs,e,q⟩:=hC.pr;rw[e,aq,du q,aq];exact wf.persons
   refine⟨i.pr,rfl,_,qS.at AY,Zb,?_⟩;obtain⟨q3,c3⟩:=q2.put (k:=3) (a:=i.pr) (l:=L 3++[.ref r3]) rfl;obtain⟨H4,sD⟩:∃H4,H4=U5 i.pr (.lst (L 3++[.ref r3])):=Zs;rw[←sD]at q3 c3⊢;have LM:H4 i.m=some (.lst (L 5)):=q3.lists 5 _ rfl;refine⟨_,_,_,(dQ q3.ins).1,T.bU,n6,_,Af i,cQ LM,i.m,rfl,_,LM,by rw[hC.eF,aq];omega,?_⟩;obtain⟨q5,c5⟩:=q3.put (k:=5) (a:=i.m) (l:=L 5++[V.int 99]) rfl;have sc:Zng:=by rw[←c1];exact iy qS q1.dO
   have jG:=hC.same sc;refine k _ (by rw[c5,c3];exact sc) ⟨_,q5,?_⟩;rw[c5,c3];refine⟨jG.roles,?_,jG.steps,?_,jG.sr,?_,jG.after,jG.unlike,jG.alike⟩
   ·show L 1++[aE n]=_;rw[hC.persons,cA];rfl
   ·obtain⟨rs,e,q⟩:=jG.pr;refine⟨rs++[r3],?_,?_⟩
    ·show L 3++[.ref r3]=_;rw[e,cA];rfl
    ·rw[cA];exact qo q (d_ jY Lz)
   ·show L 5++[V.int 99]=_;rw[hC.eF,cA];rfl
  |step n l e hn h t=>
   ext G;rw[aX (show¬(text "step"::n::text "by"::l).getD 0 []=text "role"from abH)];ext k;rw[eW,aX (show¬(text "step"::n::text "by"::l).getD 0 []=text "person"from abI)];ext k;rw[eW,bu (show(text "step"::n::text "by"::l).getD 0 []=text "step"from rfl)];ext e;simp! [iJ.ins,T.bU,n3,k0,cQ iJ.steps];have cC:=wf.steps;have aC:=ok.len;refine⟨_,UP,_,bQ (j:=1) rfl,_,hL.lists 2 _ rfl,by rw[hC.steps,aq];omega,?_⟩;obtain⟨q1,c1⟩:=hL.put (k:=2) (a:=i.s) (l:=L 2++[aE n]) rfl;obtain⟨H1,fw⟩:∃H1,H1=ZH i.s (.lst (L 2++[aE n])):=Zs;ext cK;have AY:H1 i.sr=some (.lst (L 4)):=q1.lists 4 _ rfl;have Lw:H1 i.r=some ZeY:=by rw[←hC.roles];exact q1.lists 0 _ rfl
   have gQ:H1 w=some (.lst Zsx):=(dQ (by rw[c1];exact hw)).1;refine⟨_,_,_,vg,T.bU,n5,_,DX i,cQ AY,_,ZbY,λa1 j6=>?_⟩;obtain⟨H2,fL⟩:∃H2,H2=Yr a1 (.lst (ja Zsx (some 3) none)):=Zs;have s2:YH H2:=by rw[fL];exact a0 j6
   have jF:H2 a1=some ZlI:=by rw[fL,au];exact cb Zh1 (BE _ 3)
   ext bF;have amG:(L 4).length <=7:=by obtain⟨rs,e,q⟩:=hC.sr;rw[e,aq,du q,aq];exact wf.steps
   refine⟨i.sr,rfl,_,qS.at AY,Zb,?_⟩;obtain⟨q3,c3⟩:=q2.put (k:=4) (a:=i.sr) (l:=L 4++[.ref r3]) rfl;have sc:Zng:=by rw[←c1];exact iy qS q1.dO
   have jG:=hC.same sc;refine k _ (by rw[c3];exact sc) ⟨_,q3,?_⟩;rw[c3];refine⟨jG.roles,jG.persons,?_,jG.pr,?_,jG.eF,jG.after,jG.unlike,jG.alike⟩
   ·show L 2++[aE n]=_;rw[hC.steps,cA];rfl
   ·obtain⟨rs,e,q⟩:=jG.sr;refine⟨rs++[r3],?_,?_⟩
    ·show L 4++[.ref r3]=_;rw[e,cA];rfl
    ·rw[cA];exact qo q (d_ jY Lz)
  |most n v e hv h t=>
   ext G;rw[aX (show¬[text "most",n,v].getD 0 []=text "role"from abL)];ext k;rw[eW,aX (show¬[text "most",n,v].getD 0 []=text "person"from abM)];ext k;rw[eW,aX (show¬[text "most",n,v].getD 0 []=text "step"from abK)];ext k;rw[eW,bu (show[text "most",n,v].getD 0 []=text "most"from rfl)];ext e;simp! [iJ.ins,T.bU,n2,k_,n6,Af,cQ iJ.persons];have hvn:v≠[]:=(ok.word v Zh).1;have hv2:v.length<=2:=by unfold gB at hv;rw[aP,bX]at hv;exact hv.1
   have da:H i.p=some ZtY:=by rw[iJ.persons];unfold Vbwbal.personNames;rw[bz];rfl
   have bG:((personNames P).findIdx λy=>y==n)<P.persons.length:=by have:((personNames P).findIdx λy=>y==n)<(personNames P).length :=Hc ⟨n,h,Zh⟩;unfold Vbwbal.personNames at this⊢;rw[aq]at this;exact this
   refine⟨_,UP,_,bQ (j:=2) rfl,⟨v.toArray⟩,rfl,_,ama hvn hv,by rw[tY];omega,_,UP,_,bQ (j:=1) rfl,DV da h ⟨_,_,rfl,hL.lists 5 _ rfl,_,EI (by rw[hC.eF,aq];exact bG),?_⟩⟩;obtain⟨q1,c1⟩:=hL.put (k:=5) (a:=i.m) (l:=(L 5).set ((personNames P).findIdx λy=>y==n) (nat (gg v))) rfl;rw[show V.int ((gg v:Nat):Int)=nat (gg v)from rfl];refine ZsS;rw[c1];have en:∀{β:Type} (f:Vbwbal.Person->β),(∀x:Vbwbal.Person,f {x with most:=gg v}=f x)->(P.persons.map λx=>if x.name==n then{x with most:=gg v}else x).map f=P.persons.map f:=λf hf=>by
    rw[bz];refine gv λx _=>?_;show f (if x.name==n then{x with most:=gg v}else x)=f x;cases x.name==n
    ·rfl
    ·exact hf x
   refine⟨hC.roles,?_,hC.steps,?_,hC.sr,?_,hC.after,hC.unlike,hC.alike⟩
   ·show L 1=_;rw[hC.persons,en (λx=>ZdG) λ_=>rfl]
   ·obtain⟨rs,e,q⟩:=hC.pr;refine⟨rs,e,?_⟩;rw[en (λx=>x.roles) λ_=>rfl];exact q
   ·show(L 5).set _ _=_;rw[hC.eF];exact ahE wf.xm h
  |after a b e h t=>
   ext G;rw[aX (show¬[text "after",a,b].getD 0 []=text "role"from abR)];ext k;rw[eW,aX (show¬[text "after",a,b].getD 0 []=text "person"from abS)];ext k;rw[eW,aX (show¬[text "after",a,b].getD 0 []=text "step"from abQ)];ext k;rw[eW,aX (show¬[text "after",a,b].getD 0 []=text "most"from λq=>AF q.symm)];ext aS;have dg:Zg2 (aE Zfw) (some (.ref i.a)):=by rw[←qP];exact Zmn iJ.pairs
   have fY:H i.a=some (.lst (L 6)):=hL.lists 6 _ rfl;have si:(L 6).length <=12:=by obtain⟨rs,e,q⟩:=hC.after;rw[e,aq,du q];exact wf.after
   refine⟨_,UP,_,g0,_,dg,cQ fY,p,w,i,P,_,rfl,iJ,eG,(by show 2<3;decide),bx.mp m1,bx.mp m2,λH1 t1 s1 xS ht=>⟨i.a,rfl,_,s1.at fY,Zb,?_⟩⟩;have q0:=hL.same s1;obtain⟨q1,c1⟩:=q0.put (k:=6) (a:=i.a) (l:=L 6++[.ref t1]) rfl;ext aP;refine⟨eI.roles,eI.persons,eI.steps,eI.pr,eI.sr,eI.eF,?_,eI.unlike,eI.alike⟩;obtain⟨rs,e,q⟩:=eI.after;refine ZlP;show L 6++[.ref t1]=_;rw[e,cA];rfl
  |unlike a b e h t=>
   ext G;rw[aX (show¬[text "unlike",a,b].getD 0 []=text "role"from abF)];ext k;rw[eW,aX (show¬[text "unlike",a,b].getD 0 []=text "person"from abG)];ext k;rw[eW,aX (show¬[text "unlike",a,b].getD 0 []=text "step"from abE)];ext k;rw[eW,aX (show¬[text "unlike",a,b].getD 0 []=text "most"from λq=>AD q.symm)];ext aS;have dg:Zg2 (aE Zi5) (some (.ref i.u)):=by rw[←qP];exact ZeP iJ.pairs
   have fY:H i.u=some (.lst (L 7)):=hL.lists 7 _ rfl;have si:(L 7).length <=12:=by obtain⟨rs,e,q⟩:=hC.unlike;rw[e,aq,du q];exact wf.unlike
   refine⟨_,UP,_,g0,_,dg,cQ fY,p,w,i,P,_,rfl,iJ,eG,(by show 2<3;decide),bx.mp m1,bx.mp m2,λH1 t1 s1 xS ht=>⟨i.u,rfl,_,s1.at fY,Zb,?_⟩⟩;have q0:=hL.same s1;obtain⟨q1,c1⟩:=q0.put (k:=7) (a:=i.u) (l:=L 7++[.ref t1]) rfl;ext aP;refine⟨eI.roles,eI.persons,eI.steps,eI.pr,eI.sr,eI.eF,eI.after,?_,eI.alike⟩;obtain⟨rs,e,q⟩:=eI.unlike;refine ZlP;show L 7++[.ref t1]=_;rw[e,cA];rfl
  |alike a b e h t=>
   ext G;rw[aX (show¬[text "alike",a,b].getD 0 []=text "role"from abO)];ext k;rw[eW,aX (show¬[text "alike",a,b].getD 0 []=text "person"from abP)];ext k;rw[eW,aX (show¬[text "alike",a,b].getD 0 []=text "step"from abN)];ext k;rw[eW,aX (show¬[text "alike",a,b].getD 0 []=text "most"from λq=>AE q.symm)];ext aS;have dg:Zg2 (aE Zjd) (some (.ref i.l)):=by rw[←qP];exact ZeR iJ.pairs
   have fY:H i.l=some (.lst (L 8)):=hL.lists 8 _ rfl;have si:(L 8).length <=12:=by obtain⟨rs,e,q⟩:=hC.alike;rw[e,aq,du q];exact wf.alike
   refine⟨_,UP,_,g0,_,dg,cQ fY,p,w,i,P,_,rfl,iJ,eG,(by show 2<3;decide),bx.mp m1,bx.mp m2,λH1 t1 s1 xS ht=>⟨i.l,rfl,_,s1.at fY,Zb,?_⟩⟩;have q0:=hL.same s1;obtain⟨q1,c1⟩:=q0.put (k:=8) (a:=i.l) (l:=L 8++[.ref t1]) rfl;ext aP;refine⟨eI.roles,eI.persons,eI.steps,eI.pr,eI.sr,eI.eF,eI.after,eI.unlike,?_⟩;obtain⟨rs,e,q⟩:=eI.alike;refine ZlP;show L 8++[.ref t1]=_;rw[e,cA];rfl
end
end
section
open Vbwbal (text splitBy wordsOf lineOf readFrom)
abbrev asy:Zc:=["plan","text","number","words","kind"]
theorem RS:aV asy Gj (aA Ja):=Zl
theorem TN{P q:Plan}{n:Nat}{l:Bytes}{r:Zz}(h:Ww ZjR=.ok q):Zkd n (l::r)=readFrom q Wi r:=by rw[show Zkd n (l::r)=(match lineOf P ZjR with |Except.error k=>Except.error (n,k)|Except.ok q=>readFrom q Wi r)from rfl,h]
theorem ahU{P:Plan}{n k:Nat}{l:Bytes}{r:Zz}(h:Ww ZjR=.error k):Zkd n (l::r)=.error (n,k):=by unfold Vbwbal.readFrom;rw[h]
theorem CY(sep:Nat):∀l:List Nat,(WQ l).length <=l.length+1/\∀x∈WQ l,x.length<=l.length
 |[]=>⟨ZA,λx hx=>by rw[show splitBy sep []=[[]]from rfl,bo]at hx;rw[hx];exact ZA⟩
 |c::r=>by
  obtain⟨h1,h2⟩:=CY sep r;unfold splitBy;split
  ·refine⟨by rw[bb,bb];omega,λx hx=>?_⟩;rcases aJ.mp hx with q|q
   ·rw[q];exact ZI
   ·have:=h2 x q;rw[bb];omega
  ·cases h4:WQ r with
   |nil=>exact ZkG (lP sep r)
   |cons y l=>
    rw[h4]at h1 h2;refine⟨by rw[bb,bb]at *;omega,λx hx=>?_⟩;rcases aJ.mp hx with q|q
    ·have:=h2 y aY;rw[q,bb,bb];omega
    ·have:=h2 x Zd6;rw[bb];omega
theorem agf{t l:Bytes}(ht:t.length<=4000)(hl:l∈Xf t)(hn:wordsOf l≠[]):oP ZjR/\oP ((wordsOf l).map mask):=by
 have h1:=(CY 10 t).2 l hl;have h2:=CY 32 l;have hw:∀w∈wordsOf l,w≠[]/\w.length<=5000:=λw hw=>⟨agi hw,by unfold Vbwbal.wordsOf at hw;have:=h2.2 w (bD.mp hw).1;omega⟩
 have hlen:(wordsOf l).length <=5000:=by unfold Vbwbal.wordsOf;have:=eZ (λw:Bytes=>w.isEmpty==false) (UI l);omega
 refine⟨⟨hn,hw,hlen⟩,λe=>hn (O7.mp e),λw hm=>?_,by rw[aq];exact hlen⟩;obtain⟨v,hv,rfl⟩:=aN.mp hm;obtain⟨q1,q2⟩:=hw v hv;refine⟨λe=>q1 (O7.mp e),by rw[aa8];exact q2⟩
def QL(A:Ad):Sp:=λvs H Q _=>∃(p a:Addr) (i:aW) (t:Bytes),vs=[.ref p,.ref a]/\Zgq Vbwbal.empty/\YT a=some Zos/\t.length<=4000/\
 (∀q,Vbwbal.read t=.ok q->∀H',Zak->ZjZ q->Wf q->Q (nat 0) H')/\
 ∀n k,Vbwbal.read t=.error (n,k)->∀H',Zak->0<n->Q (nat (100*n+k)) H'
theorem lJ.same{A:Ad}{H H':Hp}{p:Addr}{i:aW}{P:Plan}(s:Zd)(h:Zgq P):ZjZ P:=by obtain⟨L,h1,h2⟩:=h;exact⟨L,h1.same s,h2.same (iy s h1.dO)⟩
theorem lJ.dO{A:Ad}{H:Hp}{p:Addr}{i:aW}{P:Plan}(h:Zgq P):jd H i.aH:=let⟨_,h1,_⟩:=h;h1.dO
theorem lJ.yT{A:Ad}{H:Hp}{p:Addr}{i:aW}{P:Plan}(h:Zgq P):Y4:=let⟨_,h1,h2⟩:=h;h1.yT h2
section
variable {P:Program}{w:World}{K:PySem.W.Frag}{mg:Zx}{base:Heap}{A:Ad}
theorem ajb{f:Addr}{fd:FuncData}(T:Zm)(MS:Zw "lines_of" GG 2 Q9)(My:Zw "wrong_kind" Gf 4 (QH A))(MD:Zw "tell" Gk 2 (QM A))(F:Zo "tell_text" "tell_text" Ja f fd):Y2 5 f fd Gj (QL A):=by
 have nd:=RS.nd;refine F.ok RS Zj Zn
 ·obtain⟨p,a,i,t,rfl,_⟩:=h;rfl
 ·obtain⟨p,a,i,t,rfl,hW,ha,ht,k1,k2⟩:=h;ext c;refine⟨_,(ao (dN dF rfl (ail K rfl T.uK (aa (az MS hr rfl (Xi ai)) ai)) Zev (ak (bg (Z4 ZG Z0) (ao (Zcf (az My hr rfl (ZL X7)))
   (ao (ZxO (ak (ay (cR n_ (cR aiR aR ZR) YB))) bp)
   (ak (dU (az MD hr rfl (aa (pv 0) (aa (pv 3) ai))))))) bp)))
   (ak (ay aR))),?_⟩
  ext a;refine⟨a,t,rfl,(dQ ha).1,ht,λH1 l1 s1 yd am3=>?_⟩;obtain⟨rs,cX,dv,jC⟩:=am3;have anb:l1∉i.aH:=hW.dO.og yd;have Lx:∀r∈rs,r∉i.aH:=λr hr=>hW.dO.og (jC r hr);have kI:Zqz l1=some WR:=d_ cX anb;have Tj:=iy s1 hW.dO;obtain⟨Pv,aB⟩:∃Pv:Nat->L2.St->Hp->Prop,∀m σ H',YG H'↔∃(P:Plan) (v2 v3 v4:ZM),σ=[some Z6,some ZX,v2,v3,v4]/\ah Zqz Zjy/\ZjZ P/\ZF/\Vbwbal.read t=Zkd XH ((Xf t).drop m):=Ye;refine⟨l1,rfl,_,ag.of cX,aow W8 Pv ((Zi _).mpr ⟨_,none,none,none,rfl,ZU,hW.same s1,agt,rfl⟩) (λj σ H' _ hv=>?_) ?_ ?_⟩
  ·obtain⟨P,v2,v3,v4,_,sc,_,_,_⟩:=(Zi _).mp hv;exact ag.of (dQ (sc.at kI)).1
  ·intro m x Tp σ H2 hx hv hTp;ext cC;obtain⟨ra,iF,rfl⟩:=UG;obtain⟨sZ,amk,eS⟩:=gN dv iF;obtain⟨uQ,LP,Bx⟩:=get_map amk;have hcr:Zqz ra=some (.lst (sZ.map aE)):=d_ eS (Lx ra (bI iF));have s3:Xw (YM Tp ZvC):=Za5;have Df:=sc.trans (iy s3 vn.dO);have Bc:(Xf t).drop m=uQ::(Xf t).drop XH:=by obtain⟨h1,h2⟩:=iQ.mp LP;rw[afK h1,h2]
   rw[Bc]at iE;have Fc:=bI LP;ext r;ext a;obtain⟨H3,vv⟩:∃H3,H3=YM Tp ZvC:=Zs;rw[←vv]at s3 Df⊢;have anx:=Df.at hcr;have jY:=(dQ anx).1;by_cases aK:wordsOf uQ=[]
   ·have eG:sZ=[]:=by rw[Bx,aK];rfl
    refine⟨false,.inl ⟨sZ.map aE,ag.of jY,by rw[eG];rfl⟩,aF ((Zi _).mpr ⟨P,_,_,_,rfl,Df,vn.same s3,wf,?_⟩)⟩;rw[iE,TN (q:=P) (by rw[aK];rfl)]
   ·obtain⟨xA,Ei⟩:=agf ht Fc aK;rw[←Bx]at Ei;have hnw:sZ≠[]:=Ei.ne;refine⟨true,.inl ⟨sZ.map aE,ag.of jY,by cases hq:sZ with |nil=>exact absurd hq hnw|cons a r=>rfl⟩,aI ?_⟩;have i8:=vn.same s3;refine⟨p,ra,i,P,sZ,rfl,i8.yT,wf,jY,Ei,λH4 rb s4 ij=>Yu⟩;have lE:=i8.same s4;have ud:=Df.trans (iy s4 i8.dO);rw[Bx]at ij⊢;by_cases hk:iC P ZeX rb=0
    ·rw[hk];have hl:=alq wf xA ij hk;have pR:=agM hk;refine aF ⟨p,ra,i,P,_,rfl,lE,wf,by rw[←Bx];exact ud.at hcr,by rw[←Bx];exact Ei,pR,λH5 sc5 hW5=>(Zi _).mpr ⟨_,_,_,_,rfl,ud.trans sc5,hW5,ags wf pR,?_⟩⟩;rw[iE,TN hl]
    ·have hl:=alr wf xA ij hk;have LM:m<4001:=by have h1:=ll LP;have h2:=(CY 10 t).1;omega
     rw[bu (show(0 :Int)<((iC P ZeX rb:Nat):Int) by omega)];refine aI ⟨.inl ⟨Zk,Zk⟩,_,rfl,?_⟩;have:=k2 XH (iC P ZeX rb) (by rw[iE,ahU hl]) H4 (Tj.trans ud) (Nat.succ_pos m);have e:V.int (100*((m+1 :Nat):Int)+((iC P ZeX rb:Nat):Int))=nat (100*(m+1)+iC P ZeX rb):=by unfold nat;congr 1
     rw[e];ext d
  ·intro σ H2 hv;ext cC;have e1:(rs.map V.ref).length =(Xf t).length :=by rw[aq,du dv];exact X3
   rw[e1,Hg]at iE;ext a;exact k1 P iE H2 (Tj.trans sc) vn wf
end
end
section
open Vbwbal (within bytesOk choiceOf does isStep isPerson)
abbrev ata:Zc:=["calls","place","number","behind","numbers","end"]
theorem S0:aV ata GS (aA JL):=Zl
abbrev ae8:Zc:=["numbers","longest","number"]
theorem Sy:aV ae8 B1 (aA Du):=Zl
abbrev asY:Zc:=["record","number"]
theorem Sz:aV asY zb (aA Jz):=Zl
abbrev as0:Zc:=["record","number"]
theorem SD:aV as0 vY (aA JB):=Zl
abbrev Cl:=Vbwbal.Call
def cN:Cl->Nat
 | .load _=>0
 | .shown =>1
 | .sign _ _=>2
 | .absent _ _=>3
 | .plan =>4
 | .core =>5
 | .needed =>6
 | .who _=>7
 | .amend _ _ _=>8
 | .view _=>9
 | .history _=>10
 | .may _ _=>11
 | .released =>12
 | .ways =>13
 | .names =>14
def cL:Cl->List Int
 | .sign s x=>[s,x]
 | .absent x k=>[x,k]
 | .who s=>[s]
 | .amend e x _=>[e,x]
 | .view k=>[k]
 | .history e=>[e]
 | .may s x=>[s,x]
 |_=>[]
def cT:Cl->List Int
 | .load t=>t
 | .amend _ _ t=>t
 |_=>[]
structure qy(A:Ad)(H:Hp)(c:Addr)(k:Cl):Prop where
 ex:∃dx nl tl pl,H c=some (Zf0 dx (qj (nat (cN k)) (.ref nl) (.ref tl) pl))/\H nl=some (.lst (iv (cL k)))/\H tl=some (.lst (iv (cT k)))
 len:(cT k).length <=5000
theorem qy.same{A:Ad}{H H':Hp}{c:Addr}{k:Cl}(s:Zd)(h:qy A H c k):qy A H' c k:=by obtain⟨dx,nl,tl,pl,h1,h2,h3⟩:=h.ex;exact⟨⟨dx,nl,tl,pl,UY,Zei,s.at h3⟩,h.len⟩
def Iz:Sp:=λvs H Q _=>∃(a:Addr) (xs:ZK) (m:Nat),vs=[.ref a,nat m]/\H a=some (.lst (iv xs))/\xs.length<=5000/\∀H',Zd->Q (.bl (bytesOk xs m)) H'
def C5(A:Ad):Sp:=λvs H Q _=>∃(r:Addr) (i:bC) (j:aW) (P:Plan) (ab:Za) (c:Choice) (z:Int),vs=[.ref r,.int z]/\YI/\Q (.bl (ZaB (Int.ofNat P.steps.length-1))) H
def zN(A:Ad):Sp:=λvs H Q _=>∃(r:Addr) (i:bC) (j:aW) (P:Plan) (ab:Za) (c:Choice) (z:Int),vs=[.ref r,.int z]/\YI/\Q (.bl (ZaB (Int.ofNat P.persons.length-1))) H
def Rn(A:Ad)(K:PySem.W.Frag):Sp:=λvs H Q _=>∃(a:Addr) (p:Nat) (l:ZK) (c:Uz) (t:ZK) (m n:Nat) (nums txt:ZK) (places:Nat),vs=[.ref a,nat p]/\XD a V1/\l.length<=16000/\Ho (l.drop p) c t m n nums txt places/\
 ∀(H':Hp) (q dx nl tl:Addr),Zd->H q=none->H' q=some Zrq->H' nl=some Zn3->H' tl=some (.lst (iv txt))->H nl=none->H tl=none->Q XR H'
theorem tm(z:Int)(n:Nat):ZaB (Int.ofNat n-1)=(decide (0<=z)&&decide (z<(n:Int))):=by unfold Vbwbal.within;congr 1;exact sI.mpr ⟨λh=>by have:z<=(n:Int)-1:=h;omega,λh=>by show z<=(n:Int)-1;omega⟩
theorem adV(xs:Ze)(a b:Nat)(h:b<=xs.length):ja xs Zi6 (some (b:Int))=(xs.drop a).take (b-a):=by
 unfold ja;rw[HT.DQ,HT.DQ];by_cases ha:a<=xs.length
 ·rw[OV ha,OV h]
 ·rw[Nat.min_eq_right (show xs.length<=a by omega),OV h,show b-xs.length=0 by omega,show b-a=0 by omega,afo,afo]
theorem alT{c1 c2:Bool}{X Y:Prop}(h:c1=false∨c2=false)(y:Y):if c1=true then(if c2=true then X else Y)else Y:=by
 cases c1 with
 |false=>exact aF y
 |true=>
  ext e;rw[h.resolve_left Zh];exact aF y
section
variable {P:Program}{w:World}{K:PySem.W.Frag}{mg:Zx}{base:Heap}{A:Ad}
theorem ajR{f:Addr}{fd:FuncData}(T:Zm)(F:Zo "is_step" "is_step" Jz f fd):Z3 zb (C5 A):=by
 have nd:=Sz.nd;refine F.ok Sz Zj Zn
 ·ext dw
 ·ext bT;ext v;have n2:=Uo;simp! [hR.ins,T.dD,n1,lQ,hR.plan.ins,T.bU,n2,k0];rw[tm]at k;cases h0:decide (0<=z)with
  |false=>
   rw[h0,gK]at k;exact aF k
  |true=>
   rw[h0,fm]at k;exact aI ⟨_,.inl ⟨_,ag.of hR.plan.steps,(aq _).symm⟩,k⟩
theorem ajT{f:Addr}{fd:FuncData}(T:Zm)(F:Zo "is_person" "is_person" JB f fd):Z3 vY (zN A):=by
 have nd:=SD.nd;refine F.ok SD Zj Zn
 ·ext dw
 ·ext bT;ext aQ;rw[tm]at k;cases h0:decide (0<=z)with
  |false=>
   rw[h0,gK]at k;exact aF k
  |true=>
   rw[h0,fm]at k;exact aI ⟨_,Zq8,k⟩
theorem ajQ{f:Addr}{fd:FuncData}(T:Zm)(F:Zo "is_text" "is_text" Du f fd):Z3 B1 Iz:=by
 have nd:=Sy.nd;refine F.ok Sy Zj Zn
 ·obtain⟨a,xs,m,rfl,_⟩:=h;rfl
 ·obtain⟨a,xs,m,rfl,ha,hl,k⟩:=h;refine⟨_,(ak (ay (lS (eE n9 Zbk ZC ZP) (mW (ZeG (aa (dW (own:=[("number",2)]) rfl nd Zgy (show cB ae8 (aA Du) _ _ from Yf) Zbf Xc (λ_ _ _ _ _=>(D6 n9 n9 aR ZR (bE T.aol rfl)))) ai)))))),?_⟩;ext a;refine⟨_,.inl ⟨_,Xe,(oq _).symm⟩,?_⟩;unfold Vbwbal.bytesOk at k;by_cases hm:xs.length<=m
  ·rw[bu hm,fm]at k;rw[bu (show(xs.length:Int)<=(m:Int) by omega)];refine aI ⟨UD,e8 (zs:=xs) Xe (oq _) Zb Y9 (λx=>.bl (ZbS 255)) (λn v z H' hv hz s1 R S bc hS=>?_) W9⟩
   ·ext o
    ext a;have hq:=bc rfl H' ZU;unfold Vbwbal.within at hq;cases h0:decide ((0 :Int)<=z)with
    |false=>
     rw[h0,gK]at hq;exact aF hq
    |true=>
     rw[h0,fm]at hq;exact aI hq
   ·ext F;refine⟨D,rfl,xs.map λx=>ZbS 255,ZcH,?_⟩;rw[mC];exact Wx
  ·rw[aX hm,gK]at k;rw[aX (show¬(xs.length:Int)<=(m:Int) by omega)];exact aF UO
theorem akh{f:Addr}{fd:FuncData}(T:Zm)(FG:Zbj "Call" A.call Ca 1 (IF A))(F:Zo "call_at" "call_at" JL f fd):VO GS (Rn A K):=by
 have nd:=S0.nd;refine F.ok S0 Zj Zn
 ·obtain⟨a,p,l,c,t,m,n,nums,txt,places,rfl,_⟩:=h;rfl
 ·obtain⟨a,p,l,c,t,m,n,nums,txt,places,rfl,ha,hl,cp,k⟩:=h;ext c;refine⟨_,(ao (WN (Wk Yp ZC Z2))
   (ao (XW (cR n_ (cR n_ ZC aR) (bj (uW K) (D0 T.an4 rfl) ZR Z2)))
   (ao (Zcf (ZgJ Yp (kZ (cR n_ ZC aR)) (kZ ZG)))
   (ao (bg (PW.pt (Ka (bN xx ZR (bE T.adf rfl) ZP) (J_ (bN xx ZR (bE T.aoq rfl) ZP)))) (ak (ay (rq FG hr rfl (X2 (Zco (aa WU (aa (cR rD ZG ZC) ai))))))) bp)
   (ao (Zeh (cR n_ (cR n_ ZG aR) (Wk Yp ZG Z2)))
   (ak (ay (rq FG hr rfl (aa (pv 2) (aa (pv 4) (aa (mV (mO K) (pv 0) (kZ (cR n_ (pv 3) aR)) (kZ (pv 5))) (aa (cR rD (pv 5) (pv 1)) ai)))))))))))),?_⟩
  have h0:l[p]? =some (m:Int):=by have:=cp.head;rw[afz,G4]at this;exact this
  have hc:=cp.cnt;have g1:f_ V1 (p:Int)=some (nat m):=bQ (by unfold iv;rw[cx,h0];rfl);have g2:f_ Zhm (m:Int)=some (nat n):=bQ (by have e:([0,0,2,2,0,0,0,1,2,1,1,2,0,0,0].map V.int)=NC.map nat:=rfl;rw[e,cx,hc];rfl)
  have cC:=cp.le;have kC:=cp.pos;rw[mB]at cC;ext a;refine⟨_,ha,_,g1,?_⟩;ext a;refine⟨_,T.pI H,_,g2,_,rfl,_,ha,λq1 i7=>?_⟩;have e1:(p:Int)+1=((p+1 :Nat):Int):=by omega
  have e2:(p:Int)+1+(n:Int)=((p+1+n:Nat):Int):=by omega
  have amM:nums=(l.drop (p+1)).take n:=by rw[cp.akA,zo]
  have hlen:p+1+n<=l.length:=by
   by_cases hm:m≠0/\m≠8
   ·have:=(cp.bare hm.1 hm.2).2.1;omega
   ·obtain⟨kk,_,_,_,hp,_⟩:=cp.row Zb;omega
  have aqs:ja V1 (some ((p:Int)+1)) (some ZxA)=iv nums:=by rw[e2,e1,adV _ _ _ (by rw[oq];exact hlen),amM];unfold iv;rw[zk,Co,show p+1+n-(p+1)=n by omega]
  rw[aqs];obtain⟨H1,fw⟩:∃H1,H1=ZH q1 Zn3:=Zs;have s1:Zcn:=by rw[fw];exact a0 i7
  have amC:H1 q1=some Zn3:=by rw[fw];exact au
  rw[←fw];have fin:∀(q2:Addr) (tx:ZK),H1 q2=none->txt=tx->∀(x dx:Addr) (pl:Int),pl=(places:Int)->ZmY x=none->ZmY dx=none->dx≠x->
    IF A [V.ref x,nat m,V.ref q1,V.ref q2,V.int pl] (upd (upd ZmY dx ZbH) x (Zf0 dx [])) (λv H2=>v=V.ba/\Q (V.ref x) H2) E0:=λq2 tx ng u_ x dx pl cC hx gE aK=>by
   subst u_ cC;obtain⟨H2,fL⟩:∃H2,H2=Yr q2 (.lst (iv txt)):=Zs;rw[←fL]at hx gE⊢;have s2:YH H2:=by rw[fL];exact a0 ng
   have s3:Xw Zqo:=a0 gE;have md:Zqo x=none:=by rw[ax Zon];exact hx
   refine⟨x,dx,_,_,_,_,rfl,au,rfl,?_⟩;rw[jh];have s4:Xw (upd Zqo x (Zf0 dx (qj (nat m) (.ref q1) (.ref q2) ZqJ))):=bV s3 hx (rG md);ext C;exact k _ x dx q1 q2 ZpN (cD.free hx) au ((s2.trans s4).at amC) (s4.at (by rw[fL];exact au)) i7 (s1.free ng)
  by_cases hm:m≠0/\m≠8
  ·obtain⟨b1,b2,b3⟩:=cp.bare hm.1 hm.2;rw[aX (show¬(m:Int)=0 by omega),aX (show¬(m:Int)=8 by omega)];refine aI (aI ⟨ZI,λq2 ng x dx hx gE aK=>?_⟩);exact fin q2 [] ng b1 x dx _ Zb hx gE aK
  ·obtain⟨kk,r1,r2,r3,r4,r5⟩:=cp.row Zb;refine alT (by
    by_cases h:m=0
    ·left;rw[bu (show(m:Int)=0 by omega)];rfl
    ·right;rw[bu (show(m:Int)=8 by omega)];rfl) ?_
   have j6:=s1.seq ha;rw[afz]at r1;have g3:f_ V1 ZxA=some (nat kk):=by rw[e2];refine bQ ?_;unfold iv;rw[cx,show p+1+n=p+(1+n) by omega,r1];rfl
   refine⟨_,j6,_,g3,_,rfl,_,j6,λq2 ng x dx=>?_⟩;have u_:txt=(l.drop (p+1+n+1)).take kk:=by rw[r2,zo,show p+(1+n+1)=p+1+n+1 by omega]
   have aqr:ja V1 (some ((p:Int)+1+(n:Int)+1)) (some ((p:Int)+1+(n:Int)+1+(kk:Int)))=iv txt:=by rw[show(p:Int)+1+(n:Int)+1+(kk:Int)=((p+1+n+1+kk:Nat):Int) by omega,show(p:Int)+1+(n:Int)+1=((p+1+n+1 :Nat):Int) by omega,adV _ _ _ (by rw[oq];omega),u_];unfold iv;rw[zk,Co,show p+1+n+1+kk-(p+1+n+1)=kk by omega]
   rw[aqr];intro hx gE aK;exact fin q2 txt ng rfl x dx _ Zb hx gE aK
end
end
section
open Vbwbal (within bytesOk choiceOf does isStep isPerson signer load goesWith fits unsigned canEnd completion barred isSign amendments entryTold countWays withRecord)
abbrev asE:Zc:=["record","call"]
theorem RZ:aV asE OF (aA Jg):=Zl
abbrev as5:Zc:=["record","call"]
theorem SR:aV as5 OO (aA JG):=Zl
abbrev asT:Zc:=["record","call"]
theorem Sq:aV asT OJ (aA Jv):=Zl
abbrev asH:Zc:=["record","call"]
theorem R7:aV asH OH (aA Jj):=Zl
abbrev ass:Zc:=["record","call"]
theorem RL:aV ass OC (aA IW):=Zl
def iU(A:Ad)(n:Nat):Sp:=λvs H Q _=>∃(r c:Addr) (i:bC) (j:aW) (R:Rc) (k:Cl),vs=[.ref r,.ref c]/\Xn/\eJ R/\qy A YT c k/\cN k=n/\
 ∀(H':Hp) (l:Addr) (R':Rc) (c7:ZK),Yz k=(some R',c7)->Zak->ZbM j R'->eJ R'->H' l=some Zfq->c7.length<=100001->ZY H'
theorem pH{A:Ad}{H H':Hp}{r l:Addr}{i:bC}{j:aW}{R:Rc}{k:Cl}{c7:ZK}{Q:VK}(hR:Xn)(wr:eJ R)
  (q:ZkZ)
  (hd:Yz k=(some R,c7)) (s:Zd) (hl:H' l=some Zfq) (hn:c7.length<=100001):ZY H':=
 q H' l R c7 hd (iy s hR.dO) (hR.same s) wr hl hn
theorem fu{A:Ad}{H H':Hp}{r:Addr}{i:bC}{j:aW}{R:Rc}{k:Cl}{z:Int}{Q:VK}(hR:Xn)(wr:eJ R)
  (q:ZkZ)
  (hd:Yz k=(some R,[z])) (s:Zd):1<=sizeLine/\∀p,H' p=none->ZlL:=
 ⟨ZmP,λp hp=>Zfk (s.trans WD) au (by show 1<=100001;decide)⟩
theorem Ax(b:Za):nats (ln b)=iv (Vbwbal.listed b):=by rw[EJ];rfl
theorem Ay(b:Za):(Vbwbal.listed b).length =b.length+1:=by unfold Vbwbal.listed Vbwbal.ints;rw[bb,aq]
theorem alU{k:Cl}(h:cN k=7):∃s,k=.who s:=by cases k<;>first |exact⟨_,rfl⟩|cases h
theorem alV{k:Cl}(h:cN k=9):∃s,k=.view s:=by cases k<;>first |exact⟨_,rfl⟩|cases h
theorem alY{k:Cl}(h:cN k=10):∃s,k=.history s:=by cases k<;>first |exact⟨_,rfl⟩|cases h
theorem alX{k:Cl}(h:cN k=11):∃s x,k=.may s x:=by cases k<;>first |exact⟨_,_,rfl⟩|cases h
theorem alW{k:Cl}(h:cN k=2):∃s x,k=.sign s x:=by cases k<;>first |exact⟨_,_,rfl⟩|cases h
theorem al0{k:Cl}(h:cN k=3):∃s x,k=.absent s x:=by cases k<;>first |exact⟨_,_,rfl⟩|cases h
theorem alZ{k:Cl}(h:cN k=8):∃e x t,k=Zb4 x t:=by cases k<;>first |exact⟨_,_,_,rfl⟩|cases h
section
variable {P:Program}{w:World}{K:PySem.W.Frag}{mg:Zx}{base:Heap}{A:Ad}
theorem aji{f:Addr}{fd:FuncData}(T:Zm)(dZ:Ui)(MG:Zw "shown_text" Gp 3 (QP A))(F:Zo "shown" "shown" Jg f fd):Xp OF (iU A 1):=by
 have nd:=RZ.nd;refine F.ok RZ Zj Zn
 ·ext n
 ·ext l;obtain rfl:k=.shown :=by cases k<;>first |rfl|cases hk
  ext p;ext v;refine⟨_,(ak (ay (az dZ hr rfl (aa (az MG hr rfl (Vp ai)) ai)))),?_⟩;simp! [cZ.ins,T.dD,n1,lQ];refine⟨i.p,j,R.plan,rfl,cZ.plan,wr.wf,λH1 l1 s1 _ cX hlen=>o7 cX Zb λH2 l2 s2 _ bH=>?_⟩;exact pH hR wr q rfl (s1.trans s2) (by rw[bH,Ax]) (by rw[Ay];omega)
theorem aj8{f:Addr}{fd:FuncData}(T:Zm)(dZ:Ui)(mi:Zhx)(MY:Zw "core_steps" GN 14 (Ri A))(F:Zo "core" "core" JG f fd):Xp OO (iU A 5):=by
 have nd:=SR.nd;refine F.ok SR Zj Zn
 ·ext n
 ·ext l;obtain rfl:k=.core :=by cases k<;>first |rfl|cases hk
  ext p;refine⟨_,(ao (bg ZtA Zlv bp)
   (ak (ay (az dZ hr rfl (aa (az MY hr rfl (aa (pv 0) ai)) ai))))),?_⟩
  ext a;refine Zrx;have aK:∀y,y∈R.plan.unlike∨y∈R.plan.alike->y.1≠y.2:=λy hy=>wr.wf.ne y (hy.elim (λz=>ZoJ) λz=>ZoK);cases he:ZpO R.absent ZD with
  |true=>
   refine aI (Y8 ?_ s1);show(some R,match Vbwbal.core R.plan R.absent ZD with |none=>[-4]|some l=>Zfn)=_;rw[aqA aK wr.wc.room he]
  |false=>
   obtain⟨l,hl⟩:=aqz he;have hd:Yz .core =(some R,Zfn):=by show(some R,match Vbwbal.core R.plan R.absent ZD with |none=>[-4]|some l=>Zfn)=_;rw[hl]
   have si:l.length<=7:=by have h1:=(zM (G8 hl)).2;have h2:=Eu R.plan ZD;have h3:=wr.wf.steps;omega
   ext bG
theorem ajJ{f:Addr}{fd:FuncData}(T:Zm)(dZ:Ui)(fA:Zac)(MQ:Zw "needed_persons" GD 14 (Q7 A))(F:Zo "needed" "needed" Jv f fd):Xp OJ (iU A 6):=by
 have nd:=Sq.nd;refine F.ok Sq Zj Zn
 ·ext n
 ·ext l;obtain rfl:k=.needed :=by cases k<;>first |rfl|cases hk
  ext p;refine⟨_,(ao (bg (eR (Z4 Zbd Z0)) Zlv bp)
   (ak (ay (az dZ hr rfl (aa (az MQ hr rfl (aa (pv 0) ai)) ai))))),?_⟩
  ext a;refine Zq4;have bt:Yz .needed =(some R,match Vbwbal.needed R.plan R.absent ZD with |none=>[-4]|some l=>Zfn):=rfl;by_cases he:Wm ZD=[]
  ·rw[he];refine aI (Y8 ?_ s1);rw[bt,akO he]
  ·have:(nats Zgx).isEmpty =false:=by
    cases hq:Wm ZD with
    |nil=>exact absurd hq he
    |cons a b=>rfl
   rw[this];obtain⟨l,hl⟩:=akN (ab:=R.absent) he;have hd:Yz .needed =(some R,Zfn):=by rw[bt,hl]
   have si:l.length<=7:=by have h1:=(zM (G8 hl)).2;have h2:=eZ (λx=>!(R.absent.contains x)) Ztn;rw[eM]at h2;have h3:=wr.wf.persons;omega
   ext bG
theorem ajo{f:Addr}{fd:FuncData}(T:Zm)(fA:Zac)(F:Zo "released" "released" Jj f fd):Xp OH (iU A 12):=by
 have nd:=R7.nd;refine F.ok R7 Zj Zn
 ·ext n
 ·ext l;obtain rfl:k=.released :=by cases k<;>first |rfl|cases hk
  ext p;refine⟨_,(ak (ay (bh (aa (xn (Z4 Zbd Z0) aR aR) ai)))),?_⟩;ext a;refine Zq4;have bt:Yz .released =(some R,[if(Wm ZD).isEmpty =true then 1 else 0]):=rfl;have ant:(nats Zgx).isEmpty =(Wm ZD).isEmpty :=by cases unsigned R.plan ZD<;>rfl
  rw[ant];cases he:(Wm ZD).isEmpty with
  |true=>exact aF ZuR
  |false=>exact aI ZuR
theorem ai4{f:Addr}{fd:FuncData}(T:Zm)(fA:Zac)(MX:Zw "count_ways" GL 5 (Rh A))(F:Zo "ways" "ways" IW f fd):Xp OC (iU A 13):=by
 have nd:=RL.nd;refine F.ok RL Zj Zn
 ·ext n
 ·ext l;obtain rfl:k=.ways :=by cases k<;>first |rfl|cases hk
  ext p;refine⟨_,(ao (bg (bN pG (XI (aa Zbd ai)) (bE T.aod rfl) ZP) (ak (ay (bh (aa (bE T.an0 rfl) ai)))) bp)
   (ak (ay (bh (aa (az MX hr rfl (aa (pv 0) ai)) ai))))),?_⟩
  ext a;refine⟨r,i,j,R.plan,R.absent,ZD,rfl,cZ,wr.wf,λH1 u1 s1 _ AO=>⟨_,.inl ⟨_,ag.of AO,(bA _).symm⟩,?_⟩⟩;have bt:Yz .ways =if 6<(Wm ZD).length then(some R,[-7])else(some R,[Int.ofNat (countWays R.plan R.absent Zgx ZD)]):=rfl
  by_cases he:6<(Wm ZD).length
  ·rw[bu (show(6 :Int)<((Wm ZD).length :Int) by omega)];exact aI (Y8 (by rw[bt,af he]) s1)
  ·rw[aX (show¬(6 :Int)<((Wm ZD).length :Int) by omega)];refine aF ⟨r,i,j,R.plan,R.absent,ZD,rfl,Zj9,wr.wf,wr.wc,λH2 s2=>?_⟩;exact Y8 (by rw[bt,ae he];rfl) XJ
end
end
section
open Vbwbal (within bytesOk choiceOf does isStep isPerson signer load goesWith fits unsigned canEnd completion barred isSign amendments entryTold countWays withRecord)
abbrev asL:Zc:=["record","call","steps","answer","step","person"]
theorem Sb:aV asL OI (aA Jn):=Zl
abbrev asr:Zc:=["record","call","step"]
theorem RK:aV asr OB (aA IV):=Zl
abbrev asv:Zc:=["record","call","count"]
theorem RN:aV asv OD (aA IY):=Zl
abbrev as1:Zc:=["record","call","number"]
theorem SG:aV as1 ON (aA JC):=Zl
abbrev asV:Zc:=["record","call","step","person"]
theorem Su:aV asV OM (aA Jx):=Zl
abbrev asU:Zc:=["record","call"]
theorem Sr:aV asU OL (aA Jw):=Zl
theorem akU(R:Rc):Yz .names =(some R,(uI R.plan++ln R.absent).map Int.ofNat):=by unfold uI;simp only[oV,eC,cw,cA,O6];rfl
theorem avy{a b:Bool}:((!a)=true∨(!b)=true)↔(a=false∨b=false):=by cases a<;>cases b<;>simp
section
variable {P:Program}{w:World}{K:PySem.W.Frag}{mg:Zx}{base:Heap}{A:Ad}
theorem ai3{f:Addr}{fd:FuncData}(T:Zm)(dZ:Ui)(qb:Zmk)(MV:Zw "free_signers" GJ 16 (Rb A))(F:Zo "who" "who" IV f fd):Xp OB (iU A 7):=by
 have nd:=RK.nd;refine F.ok RK Zj Zn
 ·ext n
 ·ext l;obtain⟨z,rfl⟩:=alU hk;ext p;ext J;refine⟨_,(ao ZbU
   (ao (bg ZsD U9 bp)
   (ak (ay (az dZ hr rfl (aa (az MV hr rfl (aa (pv 0) (aa (pv 2) ai))) ai)))))),?_⟩
  ext aI;refine⟨_,UU,_,bQ (j:=0) rfl,r,i,j,R.plan,R.absent,ZD,z,rfl,cZ,_,rfl,?_⟩;have bt:Yz (.who z)=if isStep R z=false then(some R,[-1])else(some R,Zrk):=rfl
  ext bj;cases he:ZaB Zhh with
  |false=>exact aI (Y8 (by rw[bt,aT,he];rfl) ZU)
  |true=>
   have hd:Yz (.who z)=(some R,Zrk):=by rw[bt,aT,he];rfl
   rw[tm,aP,bX,bX]at he;have ez:V.int z=nat z.toNat:=by unfold nat;rw[mD he.1]
   rw[ez];have si:((List.range R.plan.persons.length).filter λx=>Zeu x==0).length <=7:=by have h2:=eZ (λx=>Zeu x==0) Ztn;rw[eM]at h2;have h3:=wr.wf.persons;omega
   refine aF ⟨r,i,j,R.plan,R.absent,ZD,z.toNat,rfl,cZ,wr.wf,wr.wc,Zb,λH1 l1 s1 _ cX=>o7 cX Zb λH2 l2 s2 _ bH=>?_⟩;exact ZsJ
theorem ajX{f:Addr}{fd:FuncData}(T:Zm)(dZ:Ui)(yH:Zuz)(M6:Zw "amendments_of" GX 2 (Rq A))(F:Zo "history" "history" JC f fd):Xp ON (iU A 10):=by
 have nd:=SG.nd;refine F.ok SG Zj Zn
 ·ext n
 ·ext l;obtain⟨z,rfl⟩:=alY hk;ext J;refine⟨_,(ao ZbU
   (ao (bg ZsE U9 bp)
   (ak (ay (az dZ hr rfl (aa (az M6 hr rfl (aa (pv 0) (aa (pv 2) ai))) ai)))))),?_⟩
  ext aI;refine⟨_,UU,_,bQ (j:=0) rfl,r,i,j,R,z,rfl,hR,wr,_,rfl,?_⟩;have bt:Yz (.history z)=if z<0∨Zbs z.toNat=false then(some R,[-1])else(some R,Zvq):=rfl
  cases he:(decide (0<=z)&&Zbs z.toNat)with
  |false=>
   refine ZiT;rw[bt,af];rw[zy,adO]at he;exact he.imp (λh=>Zb) id
  |true=>
   rw[aP,bX]at he;have hd:Yz (.history z)=(some R,Zvq):=by
    rw[bt,ae];rintro(h|h)
    ·omega
    ·rw[he.2]at h;cases h
   have ez:V.int z=nat z.toNat:=by unfold nat;rw[mD he.1]
   rw[ez];have si:(Zl0 z.toNat).length <=47:=by unfold Vbwbal.amendments;refine WO ?_;rw[eM];exact wr.len
   refine aF ⟨r,i,j,R,z.toNat,rfl,hR,wr,λH1 l1 s1 _ cX=>o7 cX Zb λH2 l2 s2 _ bH=>?_⟩;exact ZsJ
theorem ajM{f:Addr}{fd:FuncData}(T:Zm)(qb:Zmk)(mh:ZhI)(qe:Zmj)(F:Zo "may" "may" Jx f fd):Xp OM (iU A 11):=by
 have nd:=Su.nd;refine F.ok Su Zj Zn
 ·ext n
 ·ext l;obtain⟨z,x,rfl⟩:=alX hk;ext p;ext J;refine⟨_,(ao ZbU
   (ao Zkn
   (ao ZqX
   (ak (ay (bh (aa (az qe hr rfl (aa (pv 0) (aa (pv 2) (aa (pv 3) ai)))) ai))))))),?_⟩
  ext bM;have bt:Yz (.may z x)=if isStep R z=false∨Zkb x=false then(some R,[-1])else(some R,[Int.ofNat Zpg]):=rfl
  ext bj;ext ae;rw[aT,da]at bt;cases he:ZaB Zhh with
  |false=>exact Ztb
  |true=>
   refine Zlg;cases hf:ZbS Zet with
   |false=>exact Ztc
   |true=>
    have hd:Yz (.may z x)=(some R,[Int.ofNat Zpg]):=by
     rw[bt,ae];rintro(h|h)
     ·rw[he]at h;cases h
     ·rw[hf]at h;cases h
    rw[tm,aP,bX,bX]at he hf;have e1:V.int z=nat z.toNat:=by unfold nat;rw[mD he.1]
    have e2:V.int x=nat x.toNat:=by unfold nat;rw[mD hf.1]
    rw[e1,e2];refine aF ⟨r,i,j,R.plan,R.absent,ZD,z.toNat,x.toNat,rfl,cZ,wr.wf,wr.wc,Zb,Zb,λH1 s1=>?_⟩;exact Y8 hd s1
theorem ai6{f:Addr}{fd:FuncData}(T:Zm)(MA:Zw "viewed" Gh 3 (QJ A))(F:Zo "view" "view" IY f fd):Xp OD (iU A 9):=by
 have nd:=RN.nd;refine F.ok RN Zj Zn
 ·ext n
 ·ext l;obtain⟨z,rfl⟩:=alV hk;ext p;ext J;have n2:=Ul;ext y;have cE:zs.length=R.entries.length:=by rw[←ez,aq]
  refine⟨_,(ao ZbU
   (ao (bg (eR (Kd n9 n9 aR ZR Zkm)) U9 bp)
   (ak (ay (cR lg (bh (aa (pv 2) ai)) (az MA hr rfl (aa (pv 0) (aa (pv 2) ai)))))))),?_⟩
  simp! [c1,T.lH,n1,vN,cZ.ins,T.dD,n2,pz];refine⟨_,UU,_,bQ (j:=0) rfl,?_⟩;ext a;have bt:Yz (.view z)=if within z 0 Zuv=false then(some R,[-1])else(some R,Int.ofNat z.toNat::(List.range z.toNat).flatMap Zph):=rfl
  by_cases h0:0<=z
  ·rw[bu h0];refine ZsQ;rw[fT,cE];by_cases h1:z<=(R.entries.length:Int)
   ·rw[bu h1];refine ZwP;have hw:ZaB Zuv=true:=by unfold Vbwbal.within;rw[bu h0,bu (show z<=Int.ofNat R.entries.length from h1)];rfl
    have hd:Yz (.view z)=(some R,Int.ofNat z.toNat::(List.range z.toNat).flatMap Zph):=by rw[bt,hw];rfl
    have e1:V.int z=nat z.toNat:=by unfold nat;rw[mD h0]
    rw[e1];have s1:Z8 (Vz (.lst [nat z.toNat])):=WD;refine⟨r,i,j,R,z.toNat,rfl,XA,wr,Zb,λH2 l2 s2 _ bH si=>⟨l2,rfl,_,s2.at au,_,bH,?_,λl3 b0=>?_⟩⟩
    ·rw[oq,sz];show 1+_<=_;omega
    ·have s3:Xw (YM l3 (.lst ([nat z.toNat]++iv ((List.range z.toNat).flatMap Zph)))):=a0 b0;refine Zfk Zhs (by rw[au];rfl) ?_;rw[bb];omega
   ·rw[aX h1];refine ZiT;rw[bt,af];unfold Vbwbal.within;rw[aX (show¬z<=Int.ofNat R.entries.length from h1),Hr]
  ·rw[aX h0];refine aF ZiT;rw[bt,af];unfold Vbwbal.within;rw[aX h0,gK]
theorem ajv{f:Addr}{fd:FuncData}(T:Zm)(mi:Zhx)(fA:Zac)(MW:Zw "first_way" GK 14 (Rf A))(F:Zo "plan_end" "plan_end" Jn f fd):Xp OI (iU A 4):=by
 have nd:=Sb.nd;refine F.ok Sb Zj Zn
 ·ext n
 ·ext l;obtain rfl:k=.plan :=by cases k<;>first |rfl|cases hk
  ext p;ext c;refine⟨_,(ao (bg (eR ZtA) Zlv bp)
   (ao (WN Zbd)
   (ao (XW (bh (aa (XI Xm) ai)))
   (ao (dN dF rfl (Aj K rfl T.uJ (X2 (aa (az MW hr rfl (ZL ai)) ai))) (i4 2 K rfl (dn VM (dn (aZ 5 nd) iZ))) (ak (dU (Up ZG (aa (bh (Zco (aa VZ ai))) ai)))))
   (ak (ay (pv 3))))))),?_⟩
  ext a;refine Zrx;have bt:Yz .plan =(some R,match completion R.plan R.absent ZD with |none=>[-4]|some c=>Vbwbal.choiceTold (c.drop (choiceOf R).length)):=rfl;have gG:ZpO R.absent ZD=(ZvO ZD).isSome :=rfl;rw[gG];cases hcp:ZvO ZD with
  |none=>exact aI (Y8 (by rw[bt,hcp]) s1)
  |some c'=>
   refine aF ⟨r,i,j,R.plan,R.absent,ZD,rfl,Zj9,wr.wf,λH2 u2 s2 _ pQ=>?_⟩;have hul:(Wm ZD).length <=7:=cq (Eu _ _) wr.wf.steps;ext C;refine⟨_,.inl ⟨_,ag.of pQ,(bA _).symm⟩,X5,λl hl=>?_⟩;have s3:Xw (YM l Zuk):=a0 hl;have cG:=Zdq;refine⟨r,i,j,R.plan,R.absent,ZD,c',rfl,cZ.same cG,wr.wf,wr.wc,hcp,λH4 l4 s4 oA hw=>?_⟩;obtain⟨wy,gQ,hw2,ik⟩:=hw;ext aK;have jS:=ZfZ;have me:wy.length=(Wm ZD).length :=by rw[←hw2,aq]
   have hlH:H l=none:=cD.free hl;have hd:Yz .plan =(some R,Vbwbal.choiceTold wy):=by rw[bt,hcp,gQ];show(some R,Vbwbal.choiceTold ((choiceOf R++wy).drop (choiceOf R).length))=_;rw[List.drop_left]
   obtain⟨Pv,aB⟩:∃Pv:Nat->L2.St->Hp->Prop,∀m σ H',YG H'↔∃(v4 v5:ZM),σ=[some Yl,some Zb0,some (.ref u2),some Z5,v4,v5]/\Zd/\H' u2=some (.lst (nats Zgx))/\H' l4=some (.lst Zx6)/\H' l=some (.lst (nats (wy.length::(wy.take m).flatMap λx=>[x.1,x.2]))):=Ye;have hu4:=jS.at pQ;have ana:H4 l=some Zuk:=s4.at au;refine⟨u2,rfl,l4,rfl,_,ag.of hu4,_,ag.of ik,Bu (nats Zgx) Zx6 (by rw[bA,bA,aq,me]) Pv ((Zi _).mpr ⟨none,none,rfl,jT,hu4,ik,by rw[ana,←me];rfl⟩) (λi σ H' _ hv=>let⟨_,_,_,_,e1,e2,_⟩:=(Zi _).mp hv;⟨ag.of e1,ag.of e2⟩) ?_ ?_⟩
   ·intro m x y Tp σ H5 hx hy hv hTp;ext cJ;obtain⟨st,aT,rfl⟩:=UG;obtain⟨pe,da,rfl⟩:=Wo;obtain⟨z,hz,pN⟩:=get_map da;have fF:z.1=st:=by rw[←hw2,cx,hz]at aT;exact bY aT
    subst fF pN;have s6:ah H5 Zs6:=Za5;ext r;have fY:=s6.at jB;have sq:((wy.take m).flatMap λx=>[x.1,x.2]).length <=2*wy.length:=FL m (λx _=>aU 2);simp! [cQ fY];refine⟨X5,λp hp=>⟨_,(by rw[ax (cg fY hp)];exact fY),?_,?_⟩⟩
    ·rw[bA,bb,hsz];omega
    ·have s7:ah H5 (upd Zs6 p (.lst [nat z.1,nat z.2])):=bV s6 (s6.free hp);have LN:l≠u2:=λe=>by rw[e,pQ]at hl;cases hl
     have am2:l≠l4:=λe=>by rw[←e,au]at oA;cases oA
     refine(Zi _).mpr ⟨_,_,rfl,bV (s5.trans s7) hlH (gf (s7.at jB)),by rw[ax (λe=>LN e.symm)];exact s7.at hu5,by rw[ax (λe=>am2 e.symm)];exact s7.at hw5,?_⟩;rw[au,FK (f:=λx:Nat×Nat=>[x.1,x.2]) hz,←oV,lj];rfl
   ·intro σ H5 hv;ext cJ;rw[bA,←me,eg]at jB;ext a;have sq:(wy.flatMap λx=>[x.1,x.2]).length <=2*wy.length:=Nq (λx _=>aU 2);have et:Vbwbal.choiceTold wy=(wy.length::wy.flatMap λx=>[x.1,x.2]).map Int.ofNat:=by rw[cw,O6];rfl
    refine Zfk s5 (by rw[jB,EJ,et]) ?_;rw[et,aq,bb];omega
theorem ajK{f:Addr}{fd:FuncData}(T:Zm)(MH:Zw "shown_names" Gq 2 (QQ A))(dZ:Ui)(M9:Zw "absent_persons" G0 1 (Ru A))(F:Zo "names" "names" Jw f fd):Xp OL (iU A 14):=by
 have nd:=Sr.nd;refine F.ok Sr Zj Zn
 ·ext n
 ·ext l;obtain rfl:k=.names :=by cases k<;>first |rfl|cases hk
  ext p;ext c;ext v;refine⟨_,(ak (ay (cR lg (az MH hr rfl (Vp ai)) (az dZ hr rfl (aa (az M9 hr rfl (ZL ai)) ai))))),?_⟩;simp! [cZ.ins,T.dD,n1,lQ];refine⟨i.p,j,R.plan,rfl,cZ.plan,wr.wf,λH1 l1 s1 _ cX kF=>⟨r,i,j,R.plan,R.absent,ZD,rfl,Zj9,wr.wf,λH2 l2 s2 _ bH=>?_⟩⟩;have dc:((List.range R.plan.persons.length).filter λx=>R.absent.contains x)=R.absent:=by
   refine C_ ?_ wr.ab λx=>?_
   ·exact(O5).filter _
   ·rw[bD,dS,bx];exact⟨λh=>h.2,λh=>⟨wr.vS x h,h⟩⟩
  rw[dc]at bH;have hal:R.absent.length<=7:=by have h1:=oh R.plan.persons.length R.absent (J9 wr.ab) wr.vS;have:=wr.wf.persons;omega
  refine o7 bH Zb λH3 l3 s3 _ b0=>⟨l1,rfl,l3,rfl,_,(s2.trans s3).at cX,_,b0,?_,λp hp=>?_⟩
  ·unfold ln;rw[bA,bA,bb];omega
  ·have s4:Wj (U5 p (.lst (nats (uI R.plan)++nats (ln R.absent)))):=WD;refine pH hR wr q (akU R) (((s1.trans s2).trans s3).trans s4) ?_ ?_
   ·rw[au,←lj,EJ]
   ·unfold ln;rw[aq,bS,bb];omega
end
end
section
open Vbwbal (within bytesOk choiceOf does isStep isPerson signer load goesWith fits unsigned canEnd completion barred isSign signerOf amendments entryTold countWays withRecord)
abbrev asC:Zc:=["record","call","step","person","bar"]
theorem RW:aV asC OE (aA Je):=Zl
abbrev asF:Zc:=["record","call","person","absent"]
theorem R3:aV asF OG (aA Jh):=Zl
abbrev ate:Zc:=["record","call","number","person"]
theorem S_:aV ate OP (aA JO):=Zl
theorem ar7{P:Plan}{ab ab':Za}{x:Nat}{b:Bool}(hx:Ziv)(h:∀y,ab'.contains y=if y=x then b else Zjh):(kO P ab).set x WA=kO P ab':=by
 unfold kO;refine List.ext_getElem? λm=>?_;by_cases e:m=x
 ·subst e;rw[Hb (by rw[aq,eM];exact hx),cx,zm hx];show _=some (V.bl (ab'.contains m));rw[h m,af rfl]
 ·rw[Cq Zgc,cx,cx];cases hm:(List.range P.persons.length)[m]? with
  |none=>rfl
  |some y=>
   obtain⟨rfl,_⟩:=uo hm;show some (V.bl Zjh)=some (V.bl (ab'.contains y));rw[h y,ae e]
theorem aor{A:Ad}{H:Hp}{r:Addr}{i:bC}{j:aW}{R:Rc}{ab':Za}(h:Xn):dM A ZlF r i j {R with absent:=ab'}/\cut ZlF i.aH=Ua i.aH:=by
 have hc:cut ZlF i.aH=Ua i.aH:=vI i.amf;obtain⟨n1,n2,n3⟩:=bC.apart h.nd;obtain⟨zs,e1,e2,e3⟩:=h.entries;refine⟨⟨h.nd,ZxU,by rw[hc];exact h.plan,au,?_,⟨zs,?_,e2,by rw[hc];exact e3⟩,HY h.tab h.absent⟩,hc⟩
 ·rw[ax (λe=>n2 e.symm)];exact h.ib
 ·rw[ax (λe=>n1 e.symm)];exact e1
theorem Ef{A:Ad}{H H':Hp}{r:Addr}{i:bC}{j:aW}{R R':Rc}{k:Cl}{z:Int}{Q:VK}(q:ZkZ)
  (hd:Yz k=(some R',[z])) (s:Zak) (hR:ZbM j R') (wr:eJ R'):1<=sizeLine/\∀p,H' p=none->ZlL:=
 ⟨ZmP,λp hp=>q _ p R' [z] hd (s.trans (iy WD hR.dO)) (hR.same WD) wr au (by show 1<=100001;decide)⟩
theorem amd(k:Int):(if true=true then !m8 (.int k) [.int 0,.int 1]else m8 (.int k) [.int 0,.int 1])= !(within k 0 1):=by rw[af rfl];congr 1;unfold m8 Vbwbal.within;rw[ka,ka,List.any_nil,PD];show(((0 :Int)==k)||((1 :Int)==k))=_;rw[iS,h_,aP,bX,bX,oO,oO];omega
theorem ag1(k:Int):decide (V.int k=V.int 1)=decide (k=1):=sI.mpr ⟨λh=>V.int.inj h,λh=>by rw[h]⟩
section
variable {P:Program}{w:World}{K:PySem.W.Frag}{mg:Zx}{base:Heap}{A:Ad}
theorem ajf{f:Addr}{fd:FuncData}(T:Zm)(qb:Zmk)(mh:ZhI)(qe:Zmj)(MI:Zw "put_signature" Gs 3 (QU A))(F:Zo "sign" "sign" Je f fd):Xp OE (iU A 2):=by
 have nd:=RW.nd;refine F.ok RW Zj Zn
 ·ext n
 ·ext l;obtain⟨z,x,rfl⟩:=alW hk;ext p;ext J;refine⟨_,(ao ZbU
   (ao Zkn
   (ao ZqX
   (ao (Zcf (az qe hr rfl (ZL (X2 X7))))
   (ao (ZxO (ak (ay (bh (aa (cR rD (bE T.aop rfl) YB) ai)))) bp)
   (ak (ay (bh (aa (az MI hr rfl (aa (pv 0) (aa (pv 2) (aa (pv 3) ai)))) ai))))))))),?_⟩
  ext bM;have bt:Yz (.sign z x)=if isStep R z=false∨Zkb x=false then(some R,[-1])else if barred R.plan R.absent ZD z.toNat x.toNat≠0 then(some R,[-10-Int.ofNat Zpg])else(some {R with entries:=R.entries++[.sign z.toNat x.toNat]},[Int.ofNat R.entries.length]):=rfl
  ext bj;ext ae;rw[aT,da]at bt;cases he:ZaB Zhh with
  |false=>exact Ztb
  |true=>
   refine Zlg;cases hf:ZbS Zet with
   |false=>exact Ztc
   |true=>
    rw[ae (by
     rintro(h|h)
     ·rw[he]at h;cases h
     ·rw[hf]at h;cases h)]at bt
    rw[tm,aP,bX,bX]at he hf;have e1:V.int z=nat z.toNat:=by unfold nat;rw[mD he.1]
    have e2:V.int x=nat x.toNat:=by unfold nat;rw[mD hf.1]
    rw[e1,e2];refine aF ⟨r,i,j,R.plan,R.absent,ZD,z.toNat,x.toNat,rfl,cZ,wr.wf,wr.wc,Zb,Zb,λH1 s1=>Yu⟩;by_cases hb:Zeu x.toNat=0
    ·rw[ae (λh=>h hb)]at bt;rw[hb];refine aF ⟨r,i,j,R,z.toNat,x.toNat,rfl,XA,wr,Zb,(aep hb).1,λH2 s2 j7=>?_⟩;exact Ef q bt ((iy s1 hR.dO).trans s2) j7 (ago wr Zb Zb hb)
    ·rw[af hb]at bt;rw[bu (show(0 :Int)<((barred R.plan R.absent ZD z.toNat x.toNat:Nat):Int) by omega)];exact aI ⟨_,rfl,Y8 bt s1⟩
theorem ajk{f:Addr}{fd:FuncData}(T:Zm)(mh:ZhI)(mi:Zhx)(F:Zo "set_absent" "set_absent" Jh f fd):Xp OG (iU A 3):=by
 have nd:=R3.nd;refine F.ok R3 Zj Zn
 ·ext n
 ·ext l;obtain⟨x,kk,rfl⟩:=al0 hk;ext p;ext J;have n2:=ZcR;refine⟨_,(ao ZbU
   (ao Zkn
   (ao (bg (PW.pt (pB (eR (Z4 (az mh hr rfl (ZL Xm)) Z0)) (pA (ZgG ZG (Kk (aa aR (aa aR ai))) rfl)))) U9 bp)
   (ao (Kf (eE cS ZG aR ZP) (Ki Ym ZR set_list))
   (ak (ay (bh (aa (xn (ck K (az mi hr rfl (aa (pv 0) ai)) (λ_=>rfl)) aR aR) ai)))))))),?_⟩
  ext aI;refine⟨_,UU,_,bQ (j:=0) rfl,_,UU,_,bQ (j:=1) rfl,r,i,j,R.plan,R.absent,ZD,x,rfl,cZ,_,rfl,?_⟩;obtain⟨ab',Mj⟩:∃ab',ab'=if kk=1 then Vbwbal.insert x.toNat R.absent else R.absent.filter λy=>y != x.toNat:=Zs
  have bt:Yz (.absent x kk)=if isPerson R x=false∨within kk 0 1=false then(some R,[-1])else(some {R with absent:=ab'},[if canEnd R.plan ab' ZD=true then 1 else 0]):=by rw[Mj];rfl
  ext ae;rw[da]at bt;cases hf:ZbS Zet with
  |false=>exact aI (Y8 (by rw[bt,af (.inl hf)]) ZU)
  |true=>
   refine ZwP;have s1:Z8 (Vz (.tup [.int 0,.int 1])):=WD;refine⟨p,_,rfl,.inr (bM.of au),rfl,rfl,_,rfl,?_⟩;rw[amd];cases hg:within kk 0 1 with
   |false=>exact aI (Y8 (by rw[bt,af (.inr hg)]) s1)
   |true=>
    rw[ae (by
     rintro(h|h)
     ·rw[hf]at h;cases h
     ·rw[hg]at h;cases h)]at bt
    rw[tm,aP,bX,bX]at hf;have ku:x.toNat<R.plan.persons.length:=by omega
    have fK:=XA;ext cX;refine aF ⟨rfl,_,_,_,fK.fC.ins,T.dD,n2,_,Ab i,i.ab,rfl,_,_,rfl,fK.absent,x.toNat,?_,?_⟩
    ·rw[Om,ex,mE];exact EI ku
    ·rw[ag1,ar7 (ab':=ab') ku (λy=>?_)]
     ·obtain⟨j7,F1⟩:=aor (ab':=ab') fK;have PQ:eJ {R with absent:=ab'}:=by rw[Mj];exact agr wr ku kk
      refine⟨r,i,j,R.plan,ab',ZD,rfl,j7.fC,wr.wf,wr.wc,λH3 s3=>Yu⟩;have oG:=j7.same s3;have sc:Zng:=by refine(iy s1 hR.dO).trans ?_;rw[←F1];exact iy s3 j7.dO
      cases he:ZpO ab' ZD with
      |true=>exact aI Ztm
      |false=>exact aF Ztm
     ·rw[Mj];by_cases h1:kk=1
      ·rw[af h1,contains_insert,bu h1]
      ·rw[ae h1,aqB,aX h1]
theorem akr{f:Addr}{fd:FuncData}(T:Zm)(yH:Zuz)(mh:ZhI)(yG:ZxL)(M7:Zw "amendment_count" GY 1 (Rr A))
  (MJ:Zw "put_amendment" Gu 3 (QV A)) (F:Zo "amend" "amend" JO f fd):Xp OP (iU A 8):=by
 have nd:=S_.nd;refine F.ok S_ Zj Zn
 ·ext n
 ·ext l;obtain⟨e,x,t,rfl⟩:=alZ hk;ext p;ext du;have c1:=(dQ Oc).1;have c2:=(dQ F1).1;have c3:=(dQ F0).1;have n1:=ZnN;have n2:=ZoT;have n3:=ZcR;have n4:=Ul;have n5:=Zoa;refine⟨_,(ao ZbU
   (ao Zkn
   (ao (bg (PW.pt (pB ZsE Zr3)) U9 bp)
   (ao (bg (eR (Z4 (az yG hr rfl (aa Zc4 (aa (bE T.aoi rfl) ai))) Z0)) U9 bp)
   (ao (bg (Z4 (ZaU ZG Z2) Z0) (ak (ay (bh (aa (bE T.aok rfl) ai)))) bp)
   (ao (bg (WG (aD K (ZaU ZR Z2) rfl) ZG ZP) (ak (ay (bh (aa (bE T.an2 rfl) ai)))) bp)
   (ao (bg (WG (az M7 hr rfl (ZL ai)) (bE T.aoe rfl) ZP) (ak (ay (bh (aa (bE T.an7 rfl) ai)))) bp)
   (ak (ay (bh (aa (az MJ hr rfl (aa (pv 0) (aa (pv 2) (aa (pv 3) (aa (aD K (pv 1) rfl) ai))))) ai))))))))))),?_⟩
  ext aI;refine⟨_,UU,_,bQ (j:=0) rfl,_,UU,_,bQ (j:=1) rfl,r,i,j,R,e,rfl,hR,wr,_,rfl,?_⟩;have bt:Yz (Zb4 x t)=if e<0∨Zbs e.toNat=false∨Zkb x=false∨bytesOk t 60=false then(some R,[-1])else if R.absent.contains x.toNat=true then(some R,[-13])else if signerOf R.entries e.toNat=some x.toNat then(some R,[-14])else
   if 40<=R.entries.length-(choiceOf R).length then(some R,[-3])else(some {R with entries:=R.entries++[.amend e.toNat x.toNat (t.map Int.toNat)]},[Int.ofNat R.entries.length]):=rfl
  ext ae;rw[da]at bt;cases he:(decide (0<=e)&&Zbs e.toNat)with
  |false=>
   refine ZiT;rw[bt,af];rw[zy,adO]at he;exact he.elim (λh=>.inl Zb) λh=>ZdP
  |true=>
   rw[aP,bX]at he;refine Zlg;cases hf:ZbS Zet with
   |false=>exact aI (Y8 (by rw[bt,af (.inr (.inr (.inl hf)))]) ZU)
   |true=>
    refine aF ⟨_,_,_,c1,T.lH,n2,_,N6 _ _ _ _,tl,t,60,rfl,c3,hc.len,λH1 s1=>Yu⟩;cases hg:bytesOk t 60 with
    |false=>exact aI (Y8 (by rw[bt,af (.inr (.inr (.inr hg)))]) s1)
    |true=>
     rw[ae (by
      rintro(h|h|h|h)
      ·omega
      ·rw[he.2]at h;cases h
      ·rw[hf]at h;cases h
      ·rw[hg]at h;cases h)]at bt
     rw[tm,aP,bX,bX]at hf;have ku:x.toNat<R.plan.persons.length:=by omega
     ext cX;have ee:e=((e.toNat:Nat):Int):=(mD he.1).symm;have fK:=XA;have sg:=fK.fC;refine aF ⟨_,_,_,sg.ins,T.dD,n3,_,Ab i,i.ab,rfl,_,_,rfl,ag.of fK.absent,.bl (R.absent.contains x.toNat),?_,_,rfl,?_⟩
     ·rw[ex];exact bQ (aeA ku)
     ·cases ha:R.absent.contains x.toNat with
      |true=>exact aI (Y8 (by rw[bt,af ha]) s1)
      |false=>
       rw[ae (by rw[ha];simp)]at bt;obtain⟨zs,h1,h2,h3⟩:=fK.entries;have rZ:=he.2;obtain⟨en,yf,sn,yn,esn⟩:∃en,R.entries[e.toNat]? =some en/\∃sn yn,en=.sign sn yn:=by
        unfold Vbwbal.isSign at rZ;cases hq:R.entries[e.toNat]? with
        |none=>rw[hq]at rZ;cases rZ
        |some en=>
         rw[hq]at rZ;cases en with
         |sign a b=>exact⟨_,rfl,a,b,rfl⟩
         |amend a b c=>cases rZ
       have hso:signerOf R.entries e.toNat=some yn:=by unfold Vbwbal.signerOf;rw[yf,esn]
       rw[hso]at bt;obtain⟨zz,EM,pN⟩:=get_map (show(zs.map Z1)[e.toNat]? =some en by rw[h2];exact yf);obtain⟨dxe,txe,g1,g2⟩:=(h3 zz (bI EM)).same (ji H1 i.aH);have hep:eP zz.2=yn:=by have:zz.2=en:=pN.symm;rw[this,esn];rfl
       rw[hep]at g1;refine aF ⟨_,_,_,sg.ins,T.dD,n4,_,pz i,i.en,rfl,_,_,rfl,ag.of h1,.ref zz.1,?_,zz.1,rfl,_,_,_,g1,T.sM,n5,_,NI _ _ _ _,rfl,?_⟩
       ·rw[ee];exact bQ (by unfold refs;rw[cx,EM];rfl)
       ·have anv:decide (nat yn=V.int x)=decide (yn=x.toNat):=by rw[iS];simp only[bX,lY];omega
        rw[anv];by_cases hy:yn=x.toNat
        ·rw[bu hy];exact aI (Y8 (by rw[bt,af (by rw[hy])]) s1)
        ·rw[ae (λz=>hy (bY z))]at bt;rw[aX hy];refine aF ⟨r,i,j,R,rfl,fK,wr,λH2 s2=>ZbG⟩;ext C;have Bb:=wr.vF;obtain⟨na,hna⟩:∃na,na=R.entries.length-(choiceOf R).length :=Zs;rw[←hna]at bt Bb⊢;have anu:decide (nat na=V.int 40)=decide (40<=na):=by rw[iS];simp only[bX,lY];omega
         rw[anu];by_cases Fv:40<=na
         ·rw[bu Fv];exact aI (Y8 (by rw[bt,af Fv]) cD)
         ·rw[ae Fv]at bt;rw[aX Fv];have Ti:=iy cD hR.dO;have pZ:=hg;unfold Vbwbal.bytesOk at pZ;rw[aP,bX,dh]at pZ;have u_:iv t=nats Zfg:=by unfold iv nats;rw[bz];refine gv λy hy=>?_;have:=pZ.2 y hy;unfold Vbwbal.within at this;rw[aP,bX]at this;show V.int y=nat y.toNat;unfold nat;rw[mD this.1]
          refine aF ⟨_,_,_,cD.at c1,T.lH,n2,_,N6 _ _ _ _,r,tl,i,j,R,e.toNat,x.toNat,Zfg,?_,hR.same cD,wr,?_,λH3 s3 oG=>?_⟩
          ·show[V.ref r,V.int e,V.int x,V.ref tl]=[V.ref r,V.int ((e.toNat:Nat):Int),V.int ((x.toNat:Nat):Int),V.ref tl];rw[←ee,←ex]
          ·rw[←u_];exact Ti.at F0
          ·exact Ef q bt (Ti.trans s3) oG (agq wr (by rw[aq];exact pZ.1) Zb)
end
end
section
open Vbwbal (within bytesOk choiceOf does isStep isPerson signer unsigned canEnd)
abbrev asW:Zc:=["desk","text","plan","wrong","record"]
theorem Sv:aV asW GF (aA s_load):=Zl
def Fr(M M':Zy)(H H':Hp):Prop:=∀b o,NT o->b∉M->H b=some o->H' b=some o/\b∉M'
theorem Fr.same{M:Zy}{H H':Hp}(s:Zd):Fr M M H H':=λb o t hb e=>⟨ZbR t e,hb⟩
theorem Fr.cut{d:Addr}{L:Zy}{H H':Hp}(s:ah ZaQ (cut H' L)):Fr (d::L) (d::L) H H':=λb o t hb e=>⟨(dQ (ZbR t (d_ e λq=>hb Zd6))).1,hb⟩
def jK(A:Ad)(H:Hp)(d:Addr)(S:Vbwbal.State)(M:Zy):Prop:=Vy A.tab/\match S with
 |none=>M=[d]/\∃dx,H d=some (ZbK dx (mq .ba))
 |some R=>∃(dx r:Addr) (i:bC) (j:aW),M=d::i.aH/\H d=some (ZbK dx (mq Yl))/\Xn/\eJ R
theorem jK.same{A:Ad}{H H':Hp}{d:Addr}{S:Vbwbal.State}{M:Zy}(s:Zd)(h:Zdk):ZkK S M:=by
 ext aO;refine⟨s.tab _ t,?_⟩;cases S with
 |none=>
  ext aA;exact⟨h1,dx,Zei⟩
 |some R=>
  ext al;exact⟨dx,r,i,j,h1,Zei,h3.same s,h4⟩
theorem jK.j9{A:Ad}{H:Hp}{d:Addr}{S:Vbwbal.State}{M:Zy}(h:Zdk):∃dx v,H d=some (ZbK dx (mq v))/\d∈M:=by
 ext aO;cases S with
 |none=>
  ext aA;exact ZuJ
 |some R=>
  ext al;exact ZuJ
def ND(o:HO):Prop:=∀C dx v,o≠Zca dx (mq v)
theorem Au(xs:Ze):ND Yw:=λ_ _ _ e=>by cases e
theorem akP(xs:Ze):ND Vj:=λ_ _ _ e=>by cases e
theorem akQ(xs:Yb):ND (.dK xs):=λ_ _ _ e=>by cases e
theorem Kz{C dx:Addr}{fs:Y6}(h:fs.length≠1):ND Zbn:=λC' dx' v e=>by
 injection e with _ _ e3
 rw[e3]at h;exact h rfl
theorem dw.keep{C:Addr}{H H':Hp}{p:Addr}{i:aW}{P:Plan}(k:Zs8)(h:ZjH):Zjn:=by have kl:∀b l,H b=some UR->H' b=some UR:=λb l e=>k b _ (Au l) e;have rows:∀a ns,Za8 ns->fN H' a ns:=λa ns ⟨rs,h1,h2⟩=>Zln;have mS:∀a ns,U3 ns->g8 H' a ns:=λa ns ⟨rs,h1,h2⟩=>⟨rs,X0 h1,gA (λ_ _ e=>W6 (akP _) e) h2⟩;exact⟨W6 (Kz (by show(7 :Nat)≠1;decide)) h.ins,X0 h.roles,ZpH,X0 h.steps,X0 h.eF,W6 (akQ _) h.pairs,Zd1 h.pr,Zd1 h.sr,Zch h.after,Zql,Zch h.alike⟩
theorem dM.keep{A:Ad}{H H':Hp}{r:Addr}{i:bC}{j:aW}{R:Rc}(k:Zs8)(t:Zqi)(h:Xn):ZbM j R:=by have kc:∀b o,ND o->YT b=some o->Zjy b=some o:=λb o n e=>let⟨e1,e2⟩:=dQ e;d_ (k b o n e1) e2;obtain⟨zs,e1,e2,e3⟩:=h.entries;refine⟨h.nd,ZsN h.ins,h.plan.keep kc,W6 (Au _) h.absent,W6 (Au _) h.ib,⟨zs,W6 (Au _) e1,e2,λz hz=>?_⟩,t⟩;obtain⟨dx,tx,q1,q2⟩:=e3 z hz;exact⟨dx,tx,ZsN q1,Zcr (Au _) q2⟩
theorem Ts{H H1 H':Hp}{L:Zy}(s:Zcn)(hL:∀b∈L,H b=none)(hl:jd H1 L)(c:ah (cut H1 L) (cut H' L)):Zd:=by
 have hn:∀b o,H b=some o->b∉L:=λb o e hb=>by rw[hL b hb]at e;cases e
 refine⟨λb o t e=>(dQ (c.keep b o t (d_ (ZbR t e) (hn b o e)))).1,λb ps e=>?_,λP h=>(ji H' L).tab P (c.tab P (HZ hl (s.tab P h)))⟩;obtain⟨p1,e1⟩:=ZgL e;obtain⟨p2,e2⟩:=c.b9 b p1 (d_ e1 (hn b _ e));exact⟨p2,(dQ e2).1⟩
theorem Tr{x:Addr}{H H0 H':Hp}(hx:H x=none)(s:Z8 H0)(b:ZgE H0 H'):Zd:=
 ⟨λc o t e=>b.keep c o (cg e hx) t (s.keep c o t e),λc ps e=>let⟨p1,e1⟩:=s.b9 c ps e;b.b9 c p1 e1,λP h=>b.tab P (s.tab P h)⟩
theorem ar8(P:Plan):kO P []=Zhq ZaE:=by unfold kO;rw[List.eq_replicate_iff];exact Zvl
theorem aht(P:Plan):ic P []=ZhB .ba :=by unfold ic;rw[List.eq_replicate_iff];exact Zvl
def Q8(A:Ad):Sp:=λvs H Q _=>∃(d a:Addr) (S:Vbwbal.State) (M:Zy) (t:ZK),vs=[.ref d,.ref a]/\Zdk/\H a=some (.lst (iv t))/\a∉M/\t.length<=5000/\
 ∀(H':Hp) (l:Addr) (S':Vbwbal.State) (M':Zy) (c7:ZK),does S Zgv=(S',c7)->Zqd->ZkK S' M'->H' l=some Zfq->c7.length<=100001->ZY H'
section
variable {P:Program}{w:World}{K:PySem.W.Frag}{mg:Zx}{base:Heap}{A:Ad}
theorem ajN{f:Addr}{fd:FuncData}(T:Zm)(yG:ZxL)(Nb:Zbj "Plan" A.plan B9 1 (QW A))(MC:Zw "tell_text" Gj 5 (QL A))(Na:Zbj "Record" A.record B8 1 (QT A))
  (mi:Zhx) (F:Zo "load" "load" s_load f fd):Xp GF (Q8 A):=by
 have nd:=Sv.nd;refine F.ok Sv Zj Zn
 ·obtain⟨d,a,S,M,t,rfl,_⟩:=h;rfl
 ·obtain⟨d,a,S,M,t,rfl,hS,ha,haM,hlen,q⟩:=h;ext c;have n1:=Zn9;have n2:=Zbr;have n3:=Zbm;have n4:=Uo;have bt:does S Zgv=if bytesOk t 4000=false then(S,[-1])else match Vbwbal.read Zfg with
   | .error e=>(S,[-(Int.ofNat (100*e.1+e.2))-1000])
   | .ok p=>if canEnd p [] []=false then(S,[-7])else(some {plan:=p,absent:=[],entries:=[]},Vbwbal.ints [p.roles.length,p.persons.length,p.steps.length]):=rfl
  have one:∀(z:Int) (H':Hp),Zd->does S Zgv=(S,[z])->1<=sizeLine/\∀p,H' p=none->ZlL:=λz H' s' e=>⟨X5,λp hp=>q _ p S M [z] e (Fr.same (s'.trans WD)) (hS.same (s'.trans WD)) au (by show 1<=100001;decide)⟩;refine⟨_,(ao (bg (eR (Z4 (az yG hr rfl (Xi (aa (bE T.aog rfl) ai))) Z0)) U9 bp)
   (ao (WN (aaq Nb hr rfl))
   (ao (XW (az MC hr rfl (X2 Wr)))
   (ao (bg (bN pG ZG aR ZP) (ak (ay (bh (aa (cR rD (bE T.anZ rfl) ZG) ai)))) bp)
   (ao (Zcf (rq Na hr rfl (X2 ai)))
   (ao (bg (eR (Z4 (az mi hr rfl (Zco ai)) Z0)) (ak (ay (bh (aa (bE T.aon rfl) ai)))) bp)
   (ao (UJ YB rfl)
   (ak (ay (bh (aa (bW (c6 K) (by rfl) T.cM cU (aa (aD K (pv 2) rfl) ai)) (aa (bW (c6 K) (by rfl) T.cM cU (aa (aD K (pv 2) rfl) ai)) (aa (bW (c6 K) (by rfl) T.cM cU (aa (aD K (pv 2) rfl) ai)) ai))))))))))))),?_⟩
  ext a;refine⟨a,t,4000,rfl,ha,hlen,λH1 s1=>Yu⟩;cases hb:bytesOk t 4000 with
  |false=>exact aI (one (-1) H1 s1 (by rw[bt,af hb]))
  |true=>
   rw[ae (by rw[hb];simp)]at bt;refine aF λp pd hp LC aK=>?_;have pZ:=hb;unfold Vbwbal.bytesOk at pZ;rw[aP,bX,dh]at pZ;have u_:iv t=nats Zfg:=by unfold iv nats;rw[bz];refine gv λy hy=>?_;have:=pZ.2 y hy;unfold Vbwbal.within at this;rw[aP,bX]at this;show V.int y=nat y.toNat;unfold nat;rw[mD this.1]
   have Tw:YH Zoe:=a0 LC;have oz:Zoe p=none:=by rw[ax Zon];exact hp
   have cD:YH (upd Zoe p (Zf1 pd [])):=bV Tw hp (rG oz);refine⟨p,pd,rfl,au,λH3 i e3 IQ ang jD amU md anl acA=>ZbG⟩;obtain⟨KA,akR⟩:=df.mp amU;have cG:YH H3:=Tr hp cD IQ;have xh:=s1.trans cG;have b0:jd H3 i.aH:=λb fi=>⟨[],acA b fi⟩;have Np:∀b∈i.aH,H1 b=none:=λb fi=>cD.free (anl b (ZE fi));have ham:a∉i.aH:=λm=>by have:=Np a m;rw[s1.at ha]at this;cases this
   have i8:lJ A H3 p i Vbwbal.empty:=by refine⟨λ_=>[],⟨akR,d_ (by rw[ang,e3]) (λm=>md (ZE m)),d_ jD KA,λk b e=>acA b (bI e)⟩,?_⟩;exact⟨rfl,rfl,rfl,Zfd,Zfd,rfl,Zfd,Zfd,Zfd⟩
   refine⟨p,a,i,Zfg,rfl,i8,by rw[←u_];exact d_ (xh.at ha) ham,by rw[aq];exact pZ.1,λpl iE H4 ud lE wf=>?_,λn k iE H4 ud hn=>?_⟩
   ·ext dh;have xg:=s1.trans jT;refine⟨_,rfl,aF λr rd hr amz amS=>?_⟩;have uh:ah H4 Znl:=a0 amz;have Ly:Znl r=none:=by rw[ax (λe=>amS e.symm)];exact hr
    have jj:ah H4 (upd Znl r (ZpB rd [])):=bV uh hr (rG Ly);refine⟨r,rd,p,i,pl,rfl,au,lE.yT.same jj,wf,λH6 ri e6 e6' sb6 ank amT acK acZ acQ acq=>ZbG⟩;have gz:ah H4 H6:=Tr hr jj sb6;have Tx:=xg.trans gz;have fY:jd H6 ri.aH:=λb fi=>by
     unfold bC.aH at fi;rcases aJ.mp fi with e|fi
     ·exact⟨_,e▸acZ⟩
     rcases aJ.mp fi with e|fi
     ·exact⟨_,e▸acQ⟩
     ·rw[bo.mp fi];exact⟨_,acq⟩
    have Nn:∀b∈ri.aH,H4 b=none:=λb fi=>jj.free (ank b fi);have jw:r∉ri.aH:=λm=>by obtain⟨xs,e⟩:=fY r m;rw[acK]at e;cases e
    have s4c:ah H4 (cut H6 ri.aH):=by
     have hn:∀b o,H4 b=some o->b∉ri.aH:=λb o e m=>by rw[Nn b m]at e;cases e
     refine⟨λb o tt e=>d_ (gz.keep b o tt e) (hn b o e),λb ps e=>?_,λP h=>HZ fY (gz.tab P h)⟩;obtain⟨p1,q1⟩:=gz.b9 b ps e;exact⟨p1,d_ q1 (hn b _ e)⟩
    obtain⟨R0,ym⟩:∃R0:Rc,R0={plan:=pl,absent:=[],entries:=[]}:=Zs;have hF6:dM A H6 r ri i R0:=by rw[ym];refine⟨amT,d_ (by rw[acK,e6]) jw,?_,by rw[acZ];exact cb Zh1 (ar8 pl).symm,by rw[acq];exact cb Zh1 (aht pl).symm,⟨[],acQ,rfl,λz hz=>VG⟩,Tx.tab _ hS.1⟩;rw[e6'];exact lE.yT.same s4c
    have PR:eJ R0:=by rw[ym];exact agp wf
    have anE:RecAt A H6 r ri i pl [] []:=by have:=hF6.fC;rw[ym]at this;exact this
    have hwc:gZ pl []:=by have:=PR.wc;rw[ym]at this;exact this
    refine⟨r,ri,i,pl,[],[],rfl,anE,wf,hwc,λH7 s7=>Yu⟩;have DS:=Tx.trans s7;cases he:canEnd pl [] []with
    |false=>exact aI (one (-7) H7 DS (by rw[bt];show(if canEnd pl [] []=false then _ else _)=_;rw[af he]))
    |true=>
     have hd:does S Zgv=(some R0,Vbwbal.ints [pl.roles.length,pl.persons.length,pl.steps.length]):=by rw[bt,ym];show(if canEnd pl [] []=false then _ else _)=_;rw[ae (by rw[he];simp)]
     obtain⟨dx,v,hdk,hdM⟩:=hS.j9;have Ma:=DS.at hdk;have amE:fh (Str.ofString "record") ZkE (mq v)=mq Yl:=rfl;have hF7:=hF6.same s7;obtain⟨H8,oH⟩:∃H8,H8=upd H7 d (ZbK dx (mq Yl)):=Zs;have vk:d∉ri.aH:=λm=>by have:=Nn d m;rw[xg.at hdk]at this;cases this
     have k8:∀b o,ND o->H7 b=some o->H8 b=some o:=λb o n e=>by
      have:b≠d:=λz=>by rw[z,Ma]at e;exact n _ _ _ (bY e).symm
      rw[oH,ax this];exact e
     have t8:Tab H8 A.tab:=by rw[oH];exact((BR d H7).put Ma).tab _ (DS.tab _ hS.1)
     have hF8:=hF7.keep k8 t8;have pS:=hF8.fC.plan;rw[ym]at pS;have pS:ZkI H8 p i pl:=by rw[←e6'];exact pS
     refine aF ⟨_,_,_,Ma,T.BK,n1,(by show(1 :Nat)<1000;decide),?_⟩;rw[amE,←oH];refine⟨_,_,_,pS.ins,T.bU,n2,_,n0 i,_,.inl ⟨_,ag.of pS.roles,(aq _).symm⟩,?_⟩;refine⟨_,_,_,pS.ins,T.bU,n3,_,k_ i,_,.inl ⟨_,ag.of pS.persons,(aq _).symm⟩,_,_,_,pS.ins,T.bU,n4,_,k0 i,_,.inl ⟨_,ag.of pS.steps,(aq _).symm⟩,X5,λl hl=>?_⟩;have s9:ah H8 (upd H8 l (.lst [nat pl.roles.length,nat pl.persons.length,nat pl.steps.length])):=a0 hl;refine q _ l (some R0) (d::ri.aH) _ hd ?_ ⟨s9.tab _ t8,dx,r,ri,i,rfl,s9.at (by rw[oH];exact au),hF8.same s9,PR⟩ au (by show 3<=100001;decide);intro b o tt hbM e;have hbd:b≠d:=λz=>hbM (z▸hdM);refine⟨s9.keep b o tt ?_,λm=>?_⟩
     ·rw[oH,ax hbd];exact DS.keep b o tt e
     ·rcases aJ.mp m with z|z
      ·exact hbd z
      ·have:=Nn b z;rw[xg.keep b o tt e]at this;cases this
   ·ext dh;have acu:decide ((0 :Int)<((100*n+k:Nat):Int))=true:=bu Zb;refine⟨((100*n+k:Nat):Int),rfl,?_⟩;rw[acu];refine aI ⟨((100*n+k:Nat):Int),rfl,one _ H4 (s1.trans jT) ?_⟩;rw[bt];show(S,[-(((100*n+k:Nat):Int))-1000])=_;congr 2;omega
end
end
section
open Vbwbal (within bytesOk choiceOf does isStep isPerson signer unsigned canEnd callOf)
abbrev atc:Zc:=["desk","call"]
theorem S6:aV atc GW (aA JM):=Zl
abbrev atb:Zc:=["calls","desk","found","place","call"]
theorem S5:aV atb mv (aA z0):=Zl
structure afV(K:PySem.W.Frag)(mg:Zx)(A:Ad)(fs:X6):Prop where
 g:mg "ON_A_RECORD"=some (.ref A.Eg)
 D:qr K A.Eg fs
 names:∀n x,(n,x)∈oJ->∃f,mg x=some Yo/\((n:Int),f)∈fs
theorem qy.cut{A:Ad}{H:Hp}{M L:Zy}{c:Addr}{k:Cl}(hs:∀b∈L,b∈M)(h:qy A (Ua M) c k):qy A ZaQ c k:=by obtain⟨dx,nl,tl,pl,h1,h2,h3⟩:=h.ex;have kc:∀b o,Br.cut H M b=some o->Br.cut H L b=some o:=λb o e=>let⟨e1,e2⟩:=dQ e;d_ e1 λq=>e2 (hs b q);exact⟨⟨dx,nl,tl,pl,Zcr h1,Zcr h2,Zcr h3⟩,h.len⟩
def Rp(A:Ad):Sp:=λvs H Q _=>∃(d c:Addr) (S:Vbwbal.State) (M:Zy) (k:Cl),vs=[.ref d,.ref c]/\Zdk/\qy A (Ua M) c k/\
 ∀(H':Hp) (l:Addr) (S':Vbwbal.State) (M':Zy) (c7:ZK),does S k=(S',c7)->Zqd->ZkK S' M'->H' l=some Zfq->c7.length<=100001->ZY H'
theorem arv(k:Cl)(h:cN k≠0):∃x,(cN k,x)∈oJ:=by
 cases k<;>first
  |exact absurd rfl h
  |exact⟨_,by unfold cN oJ;simp only[aJ,OA];simp;rfl⟩
section
variable {P:Program}{w:World}{K:PySem.W.Frag}{mg:Zx}{base:Heap}{A:Ad}
theorem akn{f:Addr}{fd:FuncData}{fs:X6}(T:Zm)(hD:afV K mg A fs)(MR:Zw "load" GF 17 (Q8 A))(Ms:∀n x,(n,x)∈oJ->∃ps,Zyp)
  (F:Zo "answer_to" "answer_to" JM f fd):Y2 18 f fd GW (Rp A):=by
 have nd:=S6.nd;refine F.ok S6 Zj Zn
 ·obtain⟨d,c,S,M,k,rfl,_⟩:=h;rfl
 ·obtain⟨d,c,S,M,k,rfl,hS,hc,q⟩:=h;ext c;have n1:=T.jW "number" ZT;have n2:=ZoT;have n3:=Zn9;obtain⟨sY,ac0⟩:∃sY:V->Sp->Prop,sY=λx sp=>∃f fd ps,x=.ref f/\Xp ps sp/\Zbi Yo=true/\UE ps []:=Zs;have anK:∀x sp,sY x sp->∃f fd ps,x=.ref f/\Xp ps sp/\Zbi Yo=true/\UE ps []:=λx sp h=>by rw[ac0]at h;exact h
  ext du;obtain⟨c1,c1n⟩:=dQ Oc;obtain⟨c3,c3n⟩:=dQ F0;refine⟨_,(ao (bg (WG Zc4 (bE T.adf rfl) ZP) (ak (ay (az MR hr rfl (ZL (aa Zc4 ai))))) bp)
   (ao (bg (bN Ks Ym uD ZP) (ak (ay (bh (aa (bE T.an6 rfl) ai)))) bp)
   (ak (ay (aiB hr anK (aiA K hD.D hD.g rfl (aD K (pv 1) rfl) (λ_ _=>rfl)) (aa (aD K (pv 0) rfl) (aa (pv 1) ai))))))),?_⟩
  simp! [c1,T.lH,n1,aec];by_cases nq:cN k=0
  ·obtain⟨t,rfl⟩:∃t,k=.load t:=by cases k<;>first |exact⟨_,rfl⟩|cases nq
   rw[bu (show((cN Zgv:Nat):Int)=0 from rfl)];exact aI ⟨n2,_,N6 _ _ _ _,d,tl,S,M,t,rfl,hS,c3,c3n,hc.len,q⟩
  ·rw[aX (show¬((cN k:Nat):Int)=0 by omega)];cases S with
   |none=>
    obtain⟨ht,hM,dd,hd⟩:=id hS;refine aF ZlO;have L_:does none k=(none,[-2]):=by cases k<;>first |exact absurd rfl nq|rfl
    refine aI ⟨X5,λp hp=>?_⟩;have s1:Z8 (Vz (.lst [V.int (-2)])):=WD;exact q _ p none M [-2] L_ (Fr.same s1) (hS.same s1) au (by show 1<=100001;decide)
   |some R=>
    obtain⟨ht,dd,r,i,j,hM,hd,hF,wr⟩:=id hS;refine aF ZlO;ext g;obtain⟨x,hx⟩:=arv k nq;obtain⟨ps,G⟩:=Ms _ _ hx;obtain⟨fa,yN,hFn,hm,LV,hb⟩:=G.ex;obtain⟨fb,kG,jA⟩:=hD.names _ _ hx;rw[hm]at kG;cases kG
    unfold Qn Qm;simp! [c1,T.lH,n1,aec];refine⟨fa,jA,iU A (cN k),?_,?_⟩
    ·rw[ac0];exact⟨fa,yN,ps,rfl,hFn,LV,hb⟩
    ·refine ZlO;subst hM;have vk:d∉i.aH:=λm=>by obtain⟨xs,e⟩:=hF.dO d m;rw[hd]at e;cases e
     refine⟨r,c,i,j,R,k,rfl,hF,wr,hc.cut (λb hb=>Za1),rfl,λH' l R' c7 e1 sc hF' wr' hl hn=>?_⟩;refine q H' l (some R') (d::i.aH) c7 e1 (Fr.cut sc) ⟨hF'.tab,dd,r,i,j,rfl,?_,hF',wr'⟩ hl hn;exact(dQ (sc.at (d_ hd vk))).1
end
end
section
open Vbwbal (within bytesOk choiceOf does isStep isPerson signer unsigned canEnd callOf)
open PyVbwbal (shape)
def NF(o:HO):Prop:=∀a u,o≠.bL a u
theorem dw.uU{C:Addr}{H H':Hp}{p:Addr}{i:aW}{P:Plan}(k:Zlu)(h:ZjH):Zjn:=by have kl:∀b l,H b=some UR->H' b=some UR:=λb l e=>k b _ Zer e;have rows:∀a ns,Za8 ns->fN H' a ns:=λa ns ⟨rs,h1,h2⟩=>Zln;have mS:∀a ns,U3 ns->g8 H' a ns:=λa ns ⟨rs,h1,h2⟩=>⟨rs,X0 h1,gA (λ_ _ e=>VT e) h2⟩;exact⟨VT h.ins,X0 h.roles,ZpH,X0 h.steps,X0 h.eF,VT h.pairs,Zd1 h.pr,Zd1 h.sr,Zch h.after,Zql,Zch h.alike⟩
theorem Tab.uU{H H':Hp}{P:Addr}(k:Zlu)(h:Vy P):Tab H' P:=by obtain⟨ps,h1,h2,h3⟩:=h;refine⟨ps,VT h1,h2,λpos cv e=>?_⟩;obtain⟨c,e1,e2⟩:=Zdv;exact⟨c,e1,VT e2⟩
theorem jK.uU{A:Ad}{H H':Hp}{d:Addr}{S:Vbwbal.State}{M:Zy}(k:Zlu)(h:Zdk):ZkK S M:=by
 ext aO;refine⟨t.uU k,?_⟩;cases S with
 |none=>
  ext aA;exact⟨h1,dx,VT h2⟩
 |some R=>
  ext al;refine⟨dx,r,i,j,h1,VT h2,?_,h4⟩;have kc:∀b o,NF o->YT b=some o->Zjy b=some o:=λb o n e=>let⟨e1,e2⟩:=dQ e;d_ (k b o n e1) e2;obtain⟨zs,e1,e2,e3⟩:=h3.entries;refine⟨h3.nd,Zcr Zer h3.ins,h3.plan.uU kc,VT h3.absent,VT h3.ib,⟨zs,VT e1,e2,λz hz=>?_⟩,h3.tab.uU k⟩;obtain⟨dx,tx,q1,q2⟩:=e3 z hz;exact⟨dx,tx,Zcr Zer q1,Zcr Zer q2⟩
theorem abV{H:Hp}{f:Addr}{o:Obj}{u v:HO}(h:H f=some ZaJ):∀b p,NF p->H b=some p->ZH f v b=some p:=λb p n e=>by
 have:b≠f:=λz=>by rw[z,h]at e;exact n _ _ (bY e).symm
 rw[ax this];exact e
theorem jK.mem{A:Ad}{H:Hp}{d:Addr}{S:Vbwbal.State}{M:Zy}(h:Zdk):∀b∈M,∃o,H b=some o/\NF o:=by
 ext aO;intro b hb;cases S with
 |none=>
  ext aA;rw[h1,bo]at hb;exact⟨_,by rw[hb];exact h2,λ_ _ q=>Zgn⟩
 |some R=>
  ext al;rw[h1]at hb;rcases aJ.mp hb with e|e
  ·exact⟨_,by rw[e];exact h2,λ_ _ q=>Zgn⟩
  ·obtain⟨xs,q⟩:=h3.dO b e;exact⟨_,q,λ_ _ q=>Zgn⟩
theorem adh{K:PySem.W.Frag}{M M':Zy}{H H':Hp}{a:Addr}{xs:Ze}(f:Zqd)(h:ag K (Ua M) a xs):ag K (cut H' M') a xs:=by
 have k:∀b o,NT o->Ua M b=some o->cut H' M' b=some o:=λb o t e=>by obtain⟨e1,e2⟩:=dQ e;obtain⟨q1,q2⟩:=f b o t e2 e1;exact d_ q1 q2
 rcases h with(h|⟨o,h⟩)|h
 ·exact .inl (.inl (k _ _ trivial h))
 ·exact .inl (.inr ⟨o,k _ _ trivial h⟩)
 ·exact Vq
theorem call_of{l:ZK}{c:Uz}{t:ZK}{m n:Nat}{nums txt:ZK}{places:Nat}(cp:Zn5 txt places):∃k,callOf c=some k/\cN k=m/\cL k=nums/\cT k=txt:=by
 have hn:=cp.cnt;have hl:=cp.aaN;have row:=cp.row;have bare:=cp.bare;have two:n=2->∃a b,nums=[a,b]:=λe=>by
  match nums,hl.trans e with
  |[a,b],_=>exact ZjO
 have one:n=1->∃a,nums=[a]:=λe=>by
  match nums,hl.trans e with
  |[a],_=>exact⟨a,rfl⟩
 have zero:n=0->nums=[]:=λe=>Cp.mp (hl.trans e);have nc:∀q,NC[m]? =some q->n=q:=λq e=>by rw[hn]at e;exact bY e
 match m,cp.lt,nc,row,bare with
 |0,_,nc,row,_=>
  obtain⟨k,_,_,_,_,e⟩:=row Xd;rw[zero (nc 0 rfl)]at e⊢;exact⟨.load txt,Xo,rfl,rfl,rfl⟩
 |1,_,nc,_,bare=>
  ext D;exact⟨.shown,Xo,rfl,rfl,e0.symm⟩
 |2,_,nc,_,bare=>
  ext aT;exact⟨.sign a b,Xo,rfl,rfl,e0.symm⟩
 |3,_,nc,_,bare=>
  ext aT;exact⟨.absent a b,Xo,rfl,rfl,e0.symm⟩
 |4,_,nc,_,bare=>
  ext D;exact⟨.plan,Xo,rfl,rfl,e0.symm⟩
 |5,_,nc,_,bare=>
  ext D;exact⟨.core,Xo,rfl,rfl,e0.symm⟩
 |6,_,nc,_,bare=>
  ext D;exact⟨.needed,Xo,rfl,rfl,e0.symm⟩
 |7,_,nc,_,bare=>
  ext aU;exact⟨.who a,Xo,rfl,rfl,e0.symm⟩
 |8,_,nc,row,_=>
  obtain⟨k,_,_,_,_,e⟩:=row Zdy;obtain⟨a,b,ab⟩:=two (nc 2 rfl);rw[ab]at e⊢;exact⟨.amend a b txt,Xo,rfl,rfl,rfl⟩
 |9,_,nc,_,bare=>
  ext aU;exact⟨.view a,Xo,rfl,rfl,e0.symm⟩
 |10,_,nc,_,bare=>
  ext aU;exact⟨.history a,Xo,rfl,rfl,e0.symm⟩
 |11,_,nc,_,bare=>
  ext aT;exact⟨.may a b,Xo,rfl,rfl,e0.symm⟩
 |12,_,nc,_,bare=>
  ext D;exact⟨.released,Xo,rfl,rfl,e0.symm⟩
 |13,_,nc,_,bare=>
  ext D;exact⟨.ways,Xo,rfl,rfl,e0.symm⟩
 |14,_,nc,_,bare=>
  ext D;exact⟨.names,Xo,rfl,rfl,e0.symm⟩
theorem arS{l:ZK}{c:Uz}{t:ZK}{m n:Nat}{nums txt:ZK}{places:Nat}(cp:Zn5 txt places)(h:VbwbalNeutral.asked1 c=true):txt.length<=5000:=by
 by_cases hm:m=0∨m=8
 ·obtain⟨k,_,_,_,_,e⟩:=cp.row hm;have hn:=cp.cnt;have hl:=cp.aaN;rcases hm with rfl|rfl
  ·have hn0:n=0:=(bY hn).symm;have hz:nums=[]:=Cp.mp (hl.trans hn0);rw[hz]at e;rw[e]at h;have h:(txt.all Zs7&&decide (txt.length<=5000))=true:=h;rw[aP,bX]at h;exact h.2
  ·have fH:n=2:=(bY hn).symm
   match nums,hl.trans fH,e with
   |[a,b],_,e=>
    rw[e]at h;have h:(VbwbalNeutral.whole64 a&&(VbwbalNeutral.whole64 b&&(txt.all Zs7&&decide (txt.length<=5000))))=true:=h;rw[aP,aP,aP,bX]at h;exact h.2.2.2
 ·have:=(cp.bare (λe=>hm Zb9) (λe=>hm (.inr e))).1;rw[this];exact ZI
def wY(A:Ad)(K:PySem.W.Frag):Sp:=λvs H Q _=>∃(a:Addr) (l:ZK),vs=[.ref a]/\XD a V1/\l.length<=16000/\PyVbwbal.answers_asked l=true/\ZkF/\
 ∀(H':Hp) (r:Addr),H' r=some (.lst (iv (PyVbwbal.answers l)))->Zqi->Q Yl H'
theorem step_call{S:Vbwbal.State}{c:Uz}{k:Cl}(h:callOf c=some k):Ze2 c=does S k:=by show Vbwbal.step S c=_;unfold Vbwbal.step;rw[h]
theorem ag0{H:Hp}{P f:Addr}{o o':HO}(h:Tab (ZH f o) P)(h1:∀ps,o≠.b9 ps)(h2:∀φ,o≠.ext φ)(hf:H f=some o'):Vy P:=by
 obtain⟨ps,e1,e2,e3⟩:=h;have off:∀b p,ZH f o b=some p->p≠o->H b=some p:=λb p e n=>by
  by_cases q:b=f
  ·rw[q,au]at e;exact absurd (bY e).symm n
  ·rw[ax q]at e;exact e
 refine⟨ps,off _ _ e1 λq=>h1 ps q.symm,e2,λpos cv e=>?_⟩;ext bg;exact⟨c,q1,off _ _ q2 λq=>h2 _ q.symm⟩
theorem ahM{H H':Hp}{f:Addr}{od:Obj}{xs:Ze}(s:Zd)(hf:H f=some Yw):ah (ZH f (.bL od Yw)) (Wy f (.bL od Yw)):=by
 have Fm:=s.at hf;refine⟨λb o t e=>?_,λb ps e=>?_,λP h=>?_⟩
 ·by_cases q:b=f
  ·rw[q,au]at e⊢;exact e
  ·rw[ax q]at e⊢;exact ZbR t e
 ·by_cases q:b=f
  ·rw[q,au]at e;cases e
  ·rw[ax q]at e⊢;exact ZgL e
 ·have h1:=ag0 h (λ_ q=>Zgn) (λ_ q=>Zgn) hf;obtain⟨ps,e1,e2,e3⟩:=s.tab P h1;refine⟨ps,?_,e2,λpos cv e=>?_⟩
  ·rw[ax (ie e1 Fm (by intro z;cases z))];exact e1
  ·ext bg;refine⟨c,q1,?_⟩;rw[ax (ie q2 Fm (by intro z;cases z))];exact q2
theorem agP(S:Vbwbal.State)(c:Uz)(r:ZdR):PyFlat.told (ZlK S V0)=(((Ze2 c).2.length :Int)::(Ze2 c).2)++PyFlat.told (PyFlat.played VbwbalNeutral.step (Ze2 c).1 r):=rfl
section
variable {P:Program}{w:World}{K:PySem.W.Frag}{mg:Zx}{base:Heap}{A:Ad}
theorem akm{f:Addr}{fd:FuncData}(T:Zm)(Ni:Zbj "Desk" A.j9 B_ 1 (Rg A))(M4:Zw "call_at" GS 3 (Rn A K))(dZ:Ui)(M5:Zw "answer_to" GW 18 (Rp A))
  (F:Zul):ZwN:=by
 have nd:=S5.nd;refine F.ok S5 Zj Zn
 ·obtain⟨a,l,rfl,_⟩:=h;rfl
 ·obtain⟨a,l,rfl,ha,hl,lD,acm,q⟩:=h;ext c;have n1:=T.jW "places" ZT;refine⟨_,(ao (UQ (aaq Ni hr rfl))
   (ao ZdB
   (ao (XW aR)
   (ao (Ke dF (bN rE ZG Zbk ZP) (ao (Zcf (az M4 hr rfl (ZL X7)))
   (ao (dU (Up ZR (aa (aas (az dZ hr rfl (aa (az M5 hr rfl (Xi ZaD)) ai))) ai)))
   (ak (T_ 3 nd (aD K (pv 4) rfl) ab6)))))
   (ak (ay (pv 2))))))),?_⟩
  ext a;intro d dd hd bt aK;refine⟨d,dd,rfl,au,rfl,?_⟩;rw[jh];have s1:Z8 ZiB:=a0 bt;have hd1:ZiB d=none:=by rw[ax Zon];exact hd
  have s2:Z8 (upd ZiB d ZnQ):=bV s1 hd (rG hd1);obtain⟨H2,fL⟩:∃H2,H2=upd ZiB d ZnQ:=Zs;have hd2:H2 d=some ZnQ:=by rw[fL];exact au
  rw[←fL]at s2⊢;refine⟨ZI,λff hf=>?_⟩;have s3:Xw (YM ff Yh):=a0 hf;obtain⟨H3,vv⟩:∃H3,H3=YM ff Yh:=Zs;rw[←vv]at s3⊢;have L3:H3 ff=some (.lst (iv [])):=by rw[vv];exact au
  have L5:d≠ff:=cg hd2 hf;obtain⟨cs0,hcs0,yk,dB⟩:∃cs,PyVbwbal.calls l=some cs/\cs.length<=100/\∀c∈cs,VbwbalNeutral.asked1 c=true:=by
   unfold PyVbwbal.answers_asked at lD;cases e:PyVbwbal.calls l with
   |none=>rw[e]at lD;cases lD
   |some cs=>
    rw[e]at lD;have lD:(PyFlat.atMost 100 cs&&VbwbalNeutral.asked cs)=true:=lD;rw[aP]at lD;have h2:=lD.2;unfold VbwbalNeutral.asked at h2;rw[aP,dh]at h2;exact⟨cs,rfl,lW lD.1,h2.1⟩
  have anF:PyVbwbal.answers l=PyFlat.told (ZlK none cs0):=by unfold PyVbwbal.answers;rw[hcs0];rfl
  have ha3:ag K (cut H3 (ff::[d])) a V1:=by
   have off:∀o,NT o->H a=some o->cut H3 (ff::[d]) a=some o:=λo t e=>by
    refine d_ (s3.keep a o t (s2.keep a o t e)) λm=>?_;rcases aJ.mp m with z|z
    ·exact(cg (s2.keep a o t e) hf) z
    ·exact(cg e hd) (bo.mp z)
   rcases ha with(h|⟨o,h⟩)|h
   ·exact .inl (.inl (off _ trivial h))
   ·exact .inl (.inr ⟨o,off _ trivial h⟩)
   ·exact Vq
  obtain⟨Pw,cj⟩:∃Pw:L2.St->Hp->Prop,∀σ H',Pw σ H'↔∃(pl:Nat) (cs:ZdR) (S:Vbwbal.State) (M:Zy) (Fl:ZK) (v4:ZM),σ=[some ZX,some We,some (.ref ff),some (nat pl),v4]/\pl<=l.length/\ag K (cut H' Zg8) a V1/\H' ff=some (.lst (iv Fl))/\(∀od,jK A (Wy ff ZhT) d S M)/\Zqi/\Left (l.drop pl) cs/\(∀c∈cs,VbwbalNeutral.asked1 c=true)/\
   PyVbwbal.answers l=Fl++PyFlat.told (ZlK S cs)/\Fl.length+100002*cs.length<=10000200:=Zoo
  refine HP Pw (fun σ _=>16001-natAt σ 3) ((cj _ _).mpr ⟨0,cs0,none,[d],[],none,rfl,ZI,ha3,L3,λod=>?_,Zw1,aq6 hcs0,dB,by rw[anF];rfl,by show 0+_<=_;omega⟩) ?_ ?_
  ·have jD:=s3.at hd2;refine⟨?_,rfl,dd,by rw[ax L5];exact jD⟩;obtain⟨ps,e1,e2,e3⟩:=Zw1;refine⟨ps,by rw[ax (ie e1 L3 (by intro z;cases z))];exact e1,e2,λpos cv e=>?_⟩;ext bg;exact⟨c,q1,by rw[ax (ie q2 L3 (by intro z;cases z))];exact q2⟩
  ·intro σ H4 hw;obtain⟨pl,cs,S,M,Fl,v4,rfl,cC,Bg,su,aT,ht4,LQ,acY,acX,hlen⟩:=(cj _ _).mp hw;have QA:ag K H4 a V1:=(ji H4 Zg8).seq Bg;ext a;refine⟨l.length,.inl ⟨_,QA,(oq l).symm⟩,?_⟩;by_cases bG:pl<l.length
   ·rw[bu (show(pl:Int)<(l.length:Int) by omega)];obtain⟨c,t,r,hc,rfl,am7⟩:=aly LQ (λe=>by have:=Zaw e;rw[mB,jM]at this;omega)
    obtain⟨m,n,nums,txt,places,cp⟩:=arb hc;obtain⟨k,gT,vf,LX,hk4⟩:=call_of cp;have anD:=acY c aY;have pR:=arS cp anD;refine aI ⟨a,pl,l,c,t,m,n,nums,txt,places,rfl,QA,hl,cp,λH5 qc dx nl tl s5 xY xX amO amo amP amq=>?_⟩;have acN:=s5.at su;simp! [cQ acN];refine⟨ff,_,acN,trivial,λod=>?_⟩;obtain⟨H6,sC⟩:∃H6,H6=upd H5 ff ZhT:=Zs;have amv:jK A H6 d S M:=by rw[sC];exact(aT od).same (ahM s5 su)
    have hM:∀b,H4 b=none->b∉M/\b≠ff:=λb hb=>by
     have hbf:b≠ff:=λz=>by rw[z,su]at hb;cases hb
     refine⟨λm=>?_,hbf⟩;obtain⟨o,e,_⟩:=(aT od).mem b m;rw[ax hbf,hb]at e;cases e
    have anr:ff∉M:=λm=>by obtain⟨o,e,nf⟩:=(aT od).mem ff m;rw[au]at e;exact nf _ _ (bY e).symm
    have F3:∀b o,H4 b=none->H5 b=some o->cut H6 M b=some o:=λb o h0 e=>by obtain⟨b1,b2⟩:=hM b h0;refine d_ ?_ b1;rw[sC,ax b2];exact e
    have anB:qy A (cut H6 M) qc k:=⟨⟨dx,nl,tl,ZqJ,by rw[vf];exact F3 _ _ xY xX,by rw[LX];exact F3 _ _ amP amO,by rw[hk4];exact F3 _ _ amq amo⟩,by rw[hk4];exact pR⟩;rw[←sC];ext a;refine⟨d,qc,S,M,k,rfl,amv,anB,λH7 l7 S' M' c7 L_ jC amu pX hn7=>?_⟩;have anO:H6 ff=some ZhT:=by rw[sC];exact au
    obtain⟨anN,ava⟩:=jC ff ZhT trivial anr anO;obtain⟨qc6,qcM⟩:=dQ (F3 _ _ xY xX);obtain⟨anM,atG⟩:=jC qc Zrq trivial qcM qc6;refine⟨l7,iv c7,rfl,pX,by rw[oq];omega,λH8 l8 s8 acE lA=>?_⟩;have Ft:=s8.at anN;have am9:l8≠ff:=λz=>by rw[z,Ft]at lA;cases lA
    have hqf:qc≠ff:=(hM qc xY).2;have acp:=amu.same s8;have aqc:Ze2 c=(S',c7):=by rw[step_call gT,L_]
    rw[bb]at hlen;have anL:=s8.at anM;obtain⟨zw,Ml⟩:∃zw,zw=Fl++((c7.length:Int)::c7):=Zs;have eFl:iv Fl++nat (iv c7).length ::iv c7=iv zw:=by rw[Ml,alR,oq];rfl
    have avf:zw.length=Fl.length+1+c7.length:=by rw[Ml,bS,bb];omega
    refine⟨Ft,l8,rfl,_,by rw[ax am9];exact lA,by rw[bb,oq,oq];omega,_,_,_,by rw[ax hqf];exact anL,T.lH,n1,_,art _ _ _ _,_,rfl,?_⟩;rw[eFl];have amH:=cp.le;have auT:=cp.pos;rw[mB]at amH;have epl:V.int ((pl:Int)+((places:Nat):Int))=nat (pl+places):=by unfold nat;rw[Int.natCast_add]
    rw[epl];have A3:16001-natAt [some Zkl,some (V.ref d),some (V.ref ff),some (nat (pl+places)),some (V.ref qc)] 3<16001-natAt [some Zkl,some (V.ref d),some (V.ref ff),some (nat pl),v4] 3:=by show 16001-(pl+places)<16001-pl;omega
    refine⟨(cj _ _).mpr ⟨pl+places,r,S',M',zw,_,rfl,Zb,?_,au,λod'=>?_,acp.1.uU (abV Ft),?_,λc' fI=>acY c' (ZE fI),?_,Zb⟩,A3⟩
    ·have anm:Fr Zg8 (ff::M') H6 H8:=λb o tt hb e=>by
      obtain⟨q1,q2⟩:=jC b o tt (λz=>hb (ZE z)) e;refine⟨s8.keep b o tt q1,λz=>?_⟩;rcases aJ.mp z with z|z
      ·exact hb (by rw[z];exact aY)
      ·exact q2 z
     have e6:cut H6 Zg8=cut H5 Zg8:=by rw[sC];exact vI aY
     have e9:cut (upd H8 ff (.lst (iv zw))) (ff::M')=cut H8 (ff::M'):=vI aY;rw[e9];refine adh anm ?_;rw[e6];exact adh (Fr.same s5) Bg
    ·rw[jh];exact acp.uU (abV Ft)
    ·have:=cp.rest;rw[zo]at this;rw[←this];exact am7
    ·rw[acX,agP,aqc,Ml,eC]
   ·rw[aX (show¬(pl:Int)<(l.length:Int) by omega)];have da:pl=l.length:=by omega
    rw[da,Hg]at LQ;have Me:=alx LQ;subst Me;have anG:PyVbwbal.answers l=Fl:=acX.trans (fc Fl);ext g;exact q H4 ff (by rw[su,anG]) ht4
  ·ext bO
end
end
end
end Br
end
open PySem PySem.W PyProof.Rows
theorem PySem.Challenge.cw_batchrecord_s01_answers_holds : PySem.Challenge.rw_batchrecord_s01_answers.Holds := by
  refine Br.early λ{q loose XP YP d K} hd hY hB=>?_
  refine Br.agv (r:=PySem.Challenge.rw_batchrecord_s01_answers) (by decide+kernel) rfl ⟨rfl,by decide,by decide⟩ hY ?F ?S
  case S=>
    intro K A H xs a hP ES lD hx
    cases hx with
    | cons h1 h2=>
      cases h2
      cases h1 with
      | lst hs ha=>
        have e:=L2.ab7 a.1 _ ha
        subst e
        have q:((Codec.inLen 0 16000 a.1&&a.1.all (Codec.inInt (-9223372036854775808) 9223372036854775807))&&true)=true:=ES
        rw[aP,aP]at q
        exact Br.ahn hP (Codec.inNat_iff.mp q.1.1).2 lD hs
  case F=>
    intro w mg fa h Y KX G r_
    rw[hd]at r_
    obtain⟨A,fs,c,dr,B,ht,hn,m9⟩:=hB w
    exact Br.agL KX G r_ B ht hn m9
#print axioms PySem.Challenge.cw_batchrecord_s01_answers_holds

