import PyProof.Rows.All
import Wide.All
import OpenK.AllK
import Wide.FinOn
import PyProof.EqAt
import PyProof.EqKinds
import PyProof.TupleCall
import KE.BitLaws
import Open.SpecLaws
import KE.OsHead
import KE.OsGo
import PySem.Challenge.RW_batchrecord_s01_answers
import VbwbalSpec
import KE.KDictOf
import KE.KDictList
import KE.KMinKey
import KE.KLam
import PyProof.P3Eq
import PyProof.ZipIter
import PyProof.Rows.SortShellAny
import PyProof.Rows.SetFrom
import KE.KSortedM
import PyVbwbal
import KE.KNest
set_option Elab.async false
set_option linter.all false
section
set_option hygiene false
namespace Zt
open Lean
def zz:MacroM Term:=Macro.throwUnsupported
abbrev ZZ:=Array (MacroM Term)
abbrev ZY:=Array (MacroM (TSyntax `tactic))
def zZ:ZZ:=#[`(List Nat),`(by omega),`(List Str),`(ah H H'),`(List V),`(by simp),`(ZU H s),`((·.1)),`(aB _ _),`(by decide),`(λvs H Q E h=>?_),`(⟨rfl,rfl,rfl,ZT,rfl,ZT,ZT⟩),`(Txt K mg A),`(λaG B outer s H vs Q E hr h=>?_),`(aS K),`(List Value),`(aw K),`(aw.got P w X G),`(⟨_,rfl⟩),`(PE X),`(Value->Shared->Prop),`(Got P w K mg base),`(upd H),`(List ZfL),`(Str->Option Value),`(List Addr),`(List Bytes),zz,`(aU _),`(a9 _),`(pv 1),`(choiceOf R),`(Wf P),`(pv 3),`(b7 _),`(bR P ab c),`(List Int),`(aa Yu),`(Option V),`(List α),`(bB _),`(cu K),`(ah H),`(pv 2),`(signer c),`(by decide+kernel),`(Inv X pins σ),`(cf K),`(ah.refl _),`(List Xr),`(.ref a),`((·.2)),`(Q Z6),`(cJ mg),`(λ_=>rfl),`(λ_ _=>rfl),`(YV 1 f fd),`(ck K),`(.ref l),`(.ref p),`(Z9 c),`(unsigned P)]
def zY:ZZ:=#[`(List Expr),`(List (Key×V)),`(ah H1),`(nsIn K mainGlobals),`(.lst []),`(model X.prog X.w),`(⟨_,λ_ _ _=>di⟩),`(pv 4),`(cP ZT),`(bP P),`(.type "list"),`(cj _ _),`(c++[(s,x)]),`(.ref f),`(upd H1),`(aD K Yu rfl),`(.lst xs),`(.ref r),`(.ref s.heap.objs.size),`(.dK kvs),`(pv 0),`(List Za),`(aL ?_),`(wpAny Yf X.A),`(⟨_,rfl,?_⟩),`(eval e X.env),`(load c),`(EP X pins σ Q),`(does (some R)),`(upd H2),`(k+1),`(V5 A),`(V7 s),`(cy P),`(wpAny _ _),`(I.tok _),`(Pv m σ),`(bT e),`(RecAt A H r i j P ab c),`(s1.trans s2),`(ag K H a xs),zz,`(dC I q Zf),`(I.ok.hd hc),`(Array Value),`(W8 c s),`(i+1),`(aM P w K mg base aP),`(s.heap.objs.size+1),`(cut H i.aH),`(ws.getD 1 []),`(complete P ab),`(Nat->Int),`(dk rm),`(ag K H),`(List Zjq),`(dw A.plan H p i P),`(model prog w),`(List Zgu),`(aa ZR ai),`(bw P.unlike),`(fu hR wr q)]
def zX:ZZ:=#[`(λ_=>true),`(backTo pos),`(ta σ),`(bW (c6 K) Vq T.cM cU),`(λ_ _ _ _ _=>fU),`(.inl rfl),`(ag.of ha),`(splitBy 10),`(stepAt P),`(bq 3 nd),`(eD P c),`(aa ZE),`(gZ P c),`(dM A H r i j R),`(by rw[e];rfl),`(YV 17 f fd),`(c9 P w H h),`(Nat×Nat),`(.int i),`(toldOf P),`(List Pt),`(bI hz),`(kl _ _),`(ah H2),`(bw P.alike),`(.type "tuple"),`(X.calm=true),`(hR.same s1),`(RelV y u),`(signer w),`(wf.gd y),`(bA _),`(m+1),`(c_ P ab c),`(List (κ×V)),`(.ref it),zz,zz,`(KV kvs vs),`(.inl h),`(.ref q),zz,`(RelV v u),`(Zt e te),`(keys o),`(wipe σ),`(cV _ e),zz,`(nat x),`(Gl X x),`(aa ZR),`(Zw l),`(aq _),`(I.aC.fresh ZC),`(by rw[hsz];decide),`(List (Int×Addr)),`(aa ZH ai),`(YV 2 f fd),`(Pv i σ H),`(roleAt P),`(above ch),`(.inl q)]
def zW:ZZ:=#[`(bh ai),`(fq P ab),`(.ref d),`(.ref C),`(Zt a ta),zz,`(fS P),`(n+1),`(Tab H),`(ah H3),`(bj (bF K)),`(Zw s.heap.objs.size),`(unsigned R.plan),`(.lst Zb5),`(dq K dE ir iq gO),zz,`(starEach Za2),`(get_map hy),`(aa ZE ai),`(Option Addr),`(List WData),`(choose k),`(fk P ab),`(lineOf P),`(k H' s1),`(upd H'),`(List β),`(.bl b),`(x::a),`(Zen us),`(a0 hp),zz,`(bN cS),`(Bool.noConfusion (show false=true from p)),`(absurd (show false=true from hs) eh),`(starEach es X.env),`(Array (Int×Value)),`(dJ X.prog X.w),`(bq 2 nd),`(cq (eZ _ _)),`(splitBy sep),zz,`(.lst W9),`(hf it Zf),`(iT P.after),`(aZ 4 nd),`(List Stmt),`(SameBut n),`(iO P ab w),`(List Env),`(RelV x v),`(bK P b),`(D.nx σ),zz,`(bq 1 nd),`(pv 5),`(eO kvs),`(nA _),`(Sat P),`(k _ _),`(goesWith P),`(rs.map V.ref)]
def zV:ZZ:=#[`(λD H' hD s1 h=>?_),`(List (List Key×V)),`(A.handled=none),`(by cases hz),`(Option Int),`(by cases h),`((· < ·)),`(dJ P w H h a),`(.ref D),`(k _ _ Xf e),`(.tup xs),`(⟨t,rfl⟩),`(wpAny M A),`(putK kvs),`(kM K h A),`(mF X pins),`(by rfl),`(aa Yp),`(.inr h),`(lY P c),`(gP val),`(.int 1),`(K.In h),`(bM K H),`(dC I q),`(hJ K C),`(ha pins s σ H _ I h),`(List (Str×NameKind)),`(.Tuple elts kk fQ),`(.lst Zdh),`(.seq its.toArray),`(Nat->Nat->Bool),`(PA X Za2),`(cI L ZdZ),`(aZ 3 nd),`(bM K H a xs),zz,`(starEach es),`(YV 3 f fd),`(iB w a ep),`(aZ 2 nd),`(Nat->Ze),`(ZU H' s'),`(k _ _ Zd3),`(some v),`(List ZA),`(choose n),zz,`(wf.ne y),`(c::r),`(iv l),`(km K),`(tl y),`(.ins C),`(I.ls z),`(Yc H'),`(fW m x),`(wpAny Y5),`(ps.filter λr=>r.1 != q.1),`(fits P ab),`(V->Ze->Hp->VK->Prop),`(base.Ns mainGlobals mg)]
def zU:ZZ:=#[`((bO m).length +1),`(Zv "listed" mr 1 kR),`(Str.ofString "\n"),`(.type "enumerate"),`(T.dG "entries" ZT),zz,`(ws.getD 0 []),`(PySem.W.keepIn K),`(T.b_ "steps" ZT),`(dq K dE qj qi n_),`(by kernel_rfl),`(Array DictEntry),`(.Name x pos),zz,`(eval o X.env),`(.ins C dx fs),`(ws.getD 2 []),`(α->β->Prop),`(.bL od u),`(ak (ay ki)),`(ks.contains x),`(⟨rfl,rfl⟩),`(List ZK),`(ag K H1 a xs),`(hg.alike s t),`(e q.symm),`(h pins s σ),`(⟨_,Xg⟩),`(Binds K fd),`(get_map hx),`(pairLine P),zz,`(splitBy 32),`(canEnd P),`(iY K Yu),`(mJ P ab c),`(.own x),`(I.list hq),`(K.In base),`(Nat->Nat),`(aO.mp h),`(k H ZW),`(ag.of eG),`(.lst l),`(af rfl),`(Zt b tb),`(Zt o to),zz,`(ag.of c2),`(c_ P ab),`(k it Zf),`(s.at h1),`(Zen its),`(.str x),`(J.go i),`(g8 H a),`(lJ A u),`(mN _ _),`(upd H3),`(upd H4),`(iL x),`(ak (ay (bh (aa (bE T.qd rfl) ai))))]
def zZa:ZZ:=#[`(envOfC qual scope s.heap.objs.size f),`(bN cS Zcs cW ZO),`(Zv "unsigned_steps" nz 1 (ph A)),`(Option Value),`(he pins s σ H _ I h),`(X.gu s3 H3 scope ce fp),`(Nat->L2.St->Hp->Prop),`(Unit->Shared->Prop),`(ah YX ZiT),`(Xd (ZL ai)),`(List (Str×Value)),`(Loc X.env.scope x),`(Paired (jc H) kvs),`(.lst (nats ss)),`(w++[(s,x)]),`(List (κ×Value)),`(T.b_ "pairs" ZT),`(.Subscript o i),`(KWd.step (ws,u)),`(List (Addr×HO)),`(List (Str×Nat)),`(Zo "__init__"),`(cb List.length),`(.type "dict"),`(Nat×List Nat),`(J.oX i H x H'),`(s4.trans s5),`(within z 0),`(.dT kvs),`(aa Yh ai),`(.bl false),`(V5 A.in1),`(Addr×α),`(some Yn),`(Vals vs us),`(.ref z.1),`(.bL o u),`(Option HO),`(Pv 0 σ H),`(before ps),`(Zw a o),`(cntK cn),`(cut H L),`(.dK []),`(ZD hx),`(bK P a),`(Wk Yp),`(ag.of h),`(.dict es),`(absurd z),`(ag X.K H),`(ag.of gQ),`(bM X.K H),`(fO H d o),`(e::es),`(ZD hb),`(pv 6),`(s::r),`(Rd H a),`(a0 hTp),`(c9 P w),`(eval o)]
def zZb:ZZ:=#[`(fN H a),`(hs.2 b),`(∀y,y∈P.unlike∨y∈P.alike->y.1≠y.2),`(λm v z H' hv hz s1 R S bc hS=>?_),`(cq (eZ _ _) (by rw[eM];exact ZC)),`(az fA hr rfl (ZL ai)),`(PySem.W.findIn K Wd),`(λ_ _ _ _ _=>VO),`(Inv X pins σ' H' s'),`(aO.mpr ⟨z,hz,rfl⟩),`(nG P w K mg base),`(.Attribute o),`(hl i σ H (iP hi)),`(T.b_ "persons" ZT),`(∀a∈A,mH h A a),`(λ_ _=>true),`(Sum.inl (st:Int)),`(Nat->Za->Bool),`(T.b_ "roles" ZT),`(isSign R.entries),`(Vbwbal.insert x),`(qz s.heap l1 l2),`(fV X.prog X.w),`(ys.map V.str),`(get_map hv),`(.builtin id),`(ws.map mask),`(barred P ab c),`(by cases e),`(c9 X.prog X.w),`(iN P ps q.1 x),`(fV P w),`(vs.map toV),`(backToKw pos),`(nh s₁.heap),`(⟨rfl,?_⟩),`(ps.zip us),`(λl=>x::l),`(.ins A.j9),`(G.ne L hL),`(dM A H' r i),`(Nat->Bool),`(ZS s=none),`(hP.same s1),`(jk P o Y1),`(s.keep b o),`(within x 0),`(⟨#[c]⟩),`(r.drop n),`(WM Zd2),`(cg e hn),`(cg q hn),`(Za->Nat),`(backTo gq),`(.ref c),`(.ref t),`(kQ Zb),`(refs zs),`(.amend e),`(List Key),`(W8 c st),`(df.mp hn)]
def zZc:ZZ:=#[`(t σ H Q),`(.inl e),`(PI X tg),`(Vals ys),`(Xs t),`(ZcT l m),`(bq 4 nd),`(lH H' l),`(.ListComp elt [⟨tg,iter,ifs,0⟩] scope pos),`(Paired (λr (n:List Nat)=>H' r=some ZeY)),`(i4 2 K rfl (dn VO (dn VI iZ))),`(∀σ H,Pv xs.length σ H->W0 H),`(.Call (.Name x p) Za2 [] pos),`(I.turned (t':=s.toks)),`(Zv "open_options" qm 4 (sV A)),`(List Zta),`(ho pins s σ H _ I h),`(λ_ _ _ _ _=>WT),`(Wk ZE aR Z3),`(aa Yp ai),`(⟨_,dj _ rfl,rfl,rfl⟩),`(⟨.int _,H,YJ,Zs,q⟩),`(az iK hr rfl (ZL ai)),`(ag.of (by rw[h,bz];rfl)),`(λq z=>by cases z),`(tK K Yu Wa rfl),`(.lst (rm.map V.int)),`(.ins A.part dx),`(keywordEach t9 env),`(Zad->Shared->Prop),`(T.dG "signers" ZT),`(gw C x dx fs),`(T.dG "absent" ZT),`(j_ s.heap a es ep),`(aD K Yp rfl),`(Zw n ZaR),`(List.replicate k),`(ag.of (s1.at ha)),`(hg.unlike s t h1),`(s.heap.IsList l1),`(yN g tt te vs σ),`(⟨_,Zju⟩),`(X.N[i]? =some x),`(aD K ZE rfl),`(bc rfl _ ZW),`(Paired F),`(countWays P ab),`(gc.got P w X G),`(l.Pairwise Vg),`(λs=>g s==y),`(dj _ rfl),`(Txt.split ZjE),`(⟨_,e,rfl⟩),`(.bL od Yt),`(a.length+1),`(λy=>y != x),`(.int ZdX),`(W8 (c++w) s),`(b.contains s),`(intKind prog),`(jI A H d S M),`(kj P.alike c)]
def zZd:ZZ:=#[`(⟨_,rfl,h⟩),`(by simp[e]),`(.bL o Yt),`(.ref z),`(cD.trans s3),`(model P w),`(rq I hg hm),`(ws.map aE),`(K.In s.heap),`(KT H kvs xs),`(h3 pos cv e),`(sp vs H Q E),`(.inr rfl),`(choose YE),`(tO H a b),`(.ref x),`(WM Wa),`(Wz d u),`(kW P ab),`(.lst ys),`(Array Zad),`(aE x.name),`(bQ (j:=0)),`(α->Bool),`(ag.of he),`(.b9 iz),`(.ref b),`(nat st),`(some u),`(vy K a),`(.inr XN),`(J.stop i),`(List Uw),`(Q Vi H'),`(ZD hy),`(Y2 b ys),`(absurd e),`(absurd h),`(ag.of hw),`(bM.of ht),`(kS ok ps),`(nq P c s),`(rows _ _),`(α->Nat),`(.inl k),`(.int n),`(.str z),`(ZD q),`(aA st),`(g i j),`(jU ps),`(Xy s),`(⟨rfl,Zcn (λb o hb e=>eb b o hb e) f0 f1 f3 f4 f5⟩),`(PySem.W.fnOf x qual (uV st) (oH st) ZdW .none kV doc pm an aG),`(Wk ZcR aR Z3),`(λ_ _ q=>by cases q),`(λy=>(Ww (c8 (w++[(s,y)])) (w.map Zh++s::r) c).isSome),`(Int.ofNat R.plan.persons.length-1),`(barred R.plan R.absent ZF z.toNat),`(oh Zq9 c' fB),`(λe=>e.name==("can_fill_parts":Str)),`(aM X.prog X.w X.K X.mg X.base CX k f fd ps sp)]
def zZe:ZZ:=#[`(⟨[],trivial,λa m=>absurd m Zf⟩),`(vK (name:=Str.ofString "__next__")),`(gP Zl5 rs.length),`(Wk Yu aR Z3),`(λD H' hD s1 h=>Zfu h),`(.lst (refs Zfo)),`(λf s=>jg f g s),`(bW (uY K rfl) Vq T.rg u_),`(hb pins s1 σ H1),`(vZ wi g tt te Zfe),`(cB X.N X.env.scope scope own),`(foldedSetIterable iter X.env),`(.ins A.record i.dx (mM i)),`(Vals xs),`(Zv "fillable" sm 13 (wx A)),`(bZ.k (k:=Sum.inr "unlike")),`(Value->Value->Sem Value),`(bZ.k (k:=Sum.inr "alike")),`(λ_ _ _ _ _=>(aZ 1 nd)),`(λq'=>hb (by simp[q'])),`(I.base.free b o e n hx),`(attributeBase o),`(∀y∈P.alike,y.1≠y.2),`((wordsOf tY).map mask),`(.lst (P.roles.map aE)),`(I1.aC.fresh ZC),`(⟨.bl _,H,I,rfl,?_⟩),`(PySem.W.CodeHd base c),`(.tup [nat YU,x]),`(VbwbalNeutral.step S),`(zs.length<=16777000),`(partsOf P o rooms),`(PySem.W.codeIn K aG),`(iw (ws.map tl,tl u)),`(∀x,YA x<=YH x),`(starEach [e] env),`(ws.map Wg),`(Binds X.K fd ps ds),`(PySem.W.tabIn K),`(o.data=ZaW ep),`(.lst (l.map aE)),`(.tup (k.map kV)),`(λ_ _=>False),`(List (Key×Value)),`(⟨[],rfl,.nil⟩),`(⟨_,Ax H ha,?_⟩),`(Str.ofString s),`(t.map Int.toNat),`(Bool->Hp->Prop),`(.lst (nats l)),`(.lst (nats n)),`(pE hR wr q hd),`(PI X tg iter wi),`(T.kq "kind" ZT),`(Vbwbal.listed l),`(h.IsListIter it),`(s.heap.IsList l),`(.lst (iv c7)),`(.tup [x,y,u]),`(ns.map V.int),`((keys o).Nodup),`(WellAll P h vs)]
def zZf:ZZ:=#[`(text "after"),`(yM X.env.scope),`(I.tuple hq),`(Zei _ I1 q1),`(own.map ZZ),`(.type "set"),`(BMain mg base),`(List (TE×TE)),`(Passes CX X E),`(Turn P w K tg),`(assignEach es),`(hl _ σ H ZC),`(.tup [x,y]),`(Option Expr),`(zs.take kk),`(more σ x s),`(False.elim x),`(I.lE x c e),`(SP X pins D),`(gH (nats ss)),`(k H' D s1 hD),`(ny A H p i L),`(s2.at gU ml),`(s2.trans s3),`(Zw d Us),`(YD D Ye),`(ah.refl H),`(dS.mpr Zb),`(s3.trans s4),`(.ins A.call),`(.ins A.plan),`(YV 14 f fd),`(cb Prod.fst),`(cb Prod.snd),`(jV P.unlike),`(pI P step x),`(⟨us,[]⟩),`(Addr×Obj),`(nC _ _ e),`(λ_ q=>q),`(λq=>Uz),`(ia P q.1),`(.inr X9),`(Ak P k a b),`(Dp.reads I),`(Except Nat),`(H d=some u),`(I.cell x c),`(Reach ps j),`(Un fs ex H),`(Vals i_ ds),`(by cases q),`(fg S 0 acc),`(hP.same s2),`(lI A H p i),`(some ZY),`(⟨?_,?_⟩),`(.b9 #[]),`(.inl hy),`(.load t),`(.ref sl),`(Wm ZF)]
def zZg:ZZ:=#[`(ZV Yu),`(Vr Zct),`(s2.at hd),`(vm hd _),`((c,A.tab)),`(Hp->Prop),`(PT X a tA),`(SameBut x),`(T.obj _ _),`(bN (Am K)),`(ia P ss),`(ic R.plan),`(mQ (mK K)),`(rv.get hx),`(s.b9 b ps),`(s.seq hx),`(tl y≠[]),`(.b9 ps),`(.own a),`(Ck Z2 _),`(Str×V),`(ZD hz),`(cntK k),`(uT (n:=xs.length) Pv h0 (λi σ H hi p=>?_) (fun σ H p=>⟨xs,Zfl p,ZC⟩) Zg8 hd),`(cellsFrom (s3.heap.objs.size+1) scope.names Zkk),`(Paired (λr (y:Nat×Nat)=>h r=some ZkM) rs),`(∀(s:Shared) (H:Hp) (C:Addr) (cl:Y3) (fp:Zz),PE ZjB elt te),`(∀(s:Shared) (H:Hp) (C:Addr) (cl:Y3) (fp:Zz),y6 ZjB ifs tt),`(∀(s:Shared) (H:Hp) (C:Addr) (cl:Y3) (fp:Zz),PG ZjB tg g),`(!w.params.followText "set-order"),`(Paired (λr (n:List Nat)=>H r=some ZeY) rs),`(typeOf Zbz=pure (.type "method_descriptor")),`(Int.ofNat R.plan.steps.length-1),`(.builtin "type.__call__" ⟨.ref C::us,kw⟩),`(λw hw=>tW rx fx r fs w (by simpa using hw)),`((min ZaT WZ,max ZaT WZ)),`([0,0,2,2,0,0,0,1,2,1,1,2,0,0,0].map V.int),`(ha pos pins s σ H _ I h),`(iu s.heap TI (.ref i1) (.ref i2) (.ref i3)),`(∀b u,h.get? b=some u->h'.get? b=some u),`(List.replicate P.persons.length),`(upd H2 Tp (.tup [aE pe.name,.ref ra])),`((s1.trans s2).trans s3),`(absurd (show false=true from fx) eh),`(ag.of (by rw[h,filter_all,bz];rfl)),`(.Constant .none 0 ⟨0,0,0,0⟩),`(Zv "can_be_ended" vj 14 (zJ A)),`(P.persons.map λx=>Zdv),`(bW (BD K rfl) Vq T.xn BK),`(entryTold R.entries),`(List.replicate P.steps.length),`(yj (s:={s with heap:=h'}) e c),`(Obj.putSet dI Zjc),`(absurd (Or.inl (bx.mp e)) h2),`(zj z TI TO i1 i2 i3 l1 l2 l3),`(vs.toArray.toList.map toV),`(.error (kindB P [k,a,b] rb)),`(Zv "is_person" vh 1 (zI A)),`(eB (hX YL I.ok.above)),`(hi pins s1 σ H1 _ I1 q1),`(λi x σ H H' hi p y=>?_),`(PySem.W.instObj C)]
def zZh:ZZ:=#[`(upd H3 p (HO.lst [nat x])),`(IsZip s.heap z TI TO .none),`(h2.imp (λh=>bx.mpr h) id),`(s.heap.IsListIter i1 l1 k),`(V5 A (pyNext XJ) Q E s),`(.bL od (.lst (iv Fl))),`(.tup [.int (i:Nat),x]),`(kvs.map λkv=>kV kv.1),`(HT.iW xs.length),`(T.b_ "person_roles" ZT),`(bj (uc K) ZR aR Z3),`(keywordEach [] X.env),`(λz=>some (HO.lst z)),`(Sum.inl (s:Int)),`(Result->Shared->Prop),`(upd (U7 p2 Wn) p3),`(.Pass ⟨0,0,0,0⟩),`(DX (tk:=s1.toks) I1 _),`(Heap.SameBut a s.heap),`(Str->Option NameKind),`(T.b_ "step_roles" ZT),`(bg (WG Zed cW ZO)),`(de X (compareOp op) r),`(PySem.W.plainGet K C),`(cH (m|||1<<<k) led),`(de X (compareOp .In)),`(ys.length<=sizeLine),`(⟨_,dj _ rfl,rfl⟩),`(⟨_,uJ,rfl,_,rfl⟩),`(Ai K rfl T.tS Zct),`(by simpa using hu),`(PySem.W.hasDictIn K),`(by rw[sR,hsz];omega),`(s.heap.IsList l2 ys),`(s.heap.IsList l3 us),`(xs.length=zs.length),`(λ_ _ _ _ _=>ZE),`(λ_ _ _ _ _=>VI),`(P.roles.contains x),`(Vbwbal.needed P ab),`(x<P.persons.length),`((p,w)::P.zip vs),`(aD K (pv 7) rfl),`(λb u q=>cV _ q),`(Nat->Heap->Prop),`(X.A.units+1<cLine),`(Zw dd (.own d)),`(fD (fD s.heap l1)),`(fg S 0 (acc++[c])),`(.builtin "len"),`(.builtin "sum"),`(.inr (.inr hy)),`(.lst (nats xs)),`(TP X pins σ Q),`(some (.ref r')),`(λe=>gU e.symm),`(h1.symm.trans e),`(T.b_ "mosts" ZT),`(Vbwbal.core P ab),`(YV k f fd ps sp),`(behindInMarks op),`(by rw[sz];decide)]
def zZi:ZZ:=#[`(ho pins s1 σ H1),`(textAt R.entries),`(Zbl name apos),`(aI (Y9 ?_ ZW)),`(ag.of hR.absent),`(one D.z1.symm),`(.inr (.inr q)),`(A.units+1<cLine),`(Codec.encAll cs),`(Zo x qual st f),`(aF (hS e _ ZW)),`(aI (bc e _ ZW)),`(aj (aj (HC ?_))),`(by rw[fT];omega),`(personNames P),zz,`(text "unlike"),`(some (a:Int)),`(xl c _ q ZjS),`(ab.contains x),`(It->Hp->Prop),`(Zev name X.env),`(e (h1.trans z)),`(eval a X.env),`(h.DictOf ZbF a),`(text "alike"),`(vd s.heap it a),`(Ek b o e hx),`(UI ZE rfl),`(ab.contains y),`(by cases hr),`(λb u e=>?_),`(.type "range"),`(CD P ab s x w),`(dw C H' p i P),`(g (.ref T) σ),`(stepNames P),`(.Name y py),`(Hj d o kvs),`(S.length-1),`(Zw l0 Ye),`(jk P o rooms),`(kK XH s x),`(nM r ta tb),`(r.length+1),`(cut H' i.aH),`(s6.trans s7),`(AH I.aC eb),`(Bound K A fs),`(False.elim z),`(T.keep _ _ _),`(Zt value tv),`(YA x<YH x),`(UH (ab++ss)),`(dw C H p i P),`(g x (XT vs)),`(mY xs.length),`(.bL o ZaC),`(Wb q l c),`(aa Zcs ai),`(ag.of hR.ib),`(ss.take m)]
def zZj:ZZ:=#[`(⟨a,b,rfl⟩),`(Lf _ _ _ _),`(fW m k led),`(wordsOf l),`(FR KX ar ds),`(Hx ho hd hf),`(I.ok.bs b o),`(Q (.ref d')),`(Txt.split a),`(ZcF bs H H'),`(iO P ab Zao),`(lI A H' p i),`(ok p (σ p)),`(⟨q,rfl⟩),`(.ref YW),`(jH r m n),`(Str×Addr),`(mE (oN q)),`(I.ok.has _),`(Well P h v),`(ag.of hl),`(cZ.same s1),`(cq I.ok.oJ),`(isPerson R),`(nat x.most),`(readFrom P),`(s3.at bH),`(X.gu s H scope (compEnvC scope cl C X.env) fp),`(∀(H':Hp) (l:Addr) (R':Rc) (c7:ZK),YC k=(some R',c7)->Zai->ZbO j R'->eJ R'->H' l=some Ze5->c7.length<=100001->Z0 H'),`(∀b∈ch,(b∈X.ex∨X.gM.heap.objs.size<=b)/\b≠X.env.locals/\(∀x c,X.env.cells.lookup x=some c->c≠b)/\∀p∈X.pn++pins,p.1≠b),`(Txt.join Zmc ys),`(Paired (λ(e:DictEntry) (z:Int×Addr)=>e.hash=hashInt z.1/\(∃t,e.key=.int z.1 t)/\e.val=.ref z.2)),`(Gb (aN ZgL λus s1 ⟨vs,H1,I1,r1,q1⟩=>?_)),`(∀D H',H1 D=none->V3->H' D=some (.lst ((zs.filter keep).map f))->Q Vi H'),`(swapsWith value (some (Zbl f pos')) pos.line X.env=pure false),`(propext ⟨λh=>by simpa using cb Array.toList h,λh=>by rw[h]⟩),`(λ_ _ _ _ _=>(i4 2 K rfl (dn (aZ 1 nd) (dn VO iZ)))),`(mR (az Bn hr rfl (aa (Zgm Yu (kX aR) pA) ai))),`(Paired (λr (n:List Nat)=>h r=some ZeY) rs),`(.ins A.entry dx (mn (.int 0) ZdB XW Z7)),`(.ins A.entry dx (mn Vv (nat en) XW ZY)),`(aF ⟨r,i,j,R.plan,R.absent,ZF,x,rfl,cZ,_,rfl,?_⟩),`(⟨(by rw[hsz];decide),λq hq=>?_⟩),`(r6 CX P w K mg base N qual scope f),`(λ_ _ z=>nomatch z),`(λy=>(Ww (c8 (w++[(st,y)])) U c).isSome),`(BindsTo s fd ZfK),`(∀vs H Q E,Zdl->vs.length=ps.length),`(⟨rs,Xw h1,gA (λ_ _ e=>Xw e) h2⟩),`(.lst (nats ((List.range m).flatMap tl))),`(λi x z H' Tp hx hz s1 hT R S bc hS=>?_),`(upd H4 i.en (.lst (refs zs++[.ref e]))),`(some (.builtin "object.__setattr__")),`(λe=>(Zc7 w).is (k:Int) e.2),`(∀b o,NF o->H b=some o->H' b=some o),`(ak (ay (bh (aa (bE T.Nd rfl) ai)))),`(eB (hX YL (I.ok.BH x c j4 hc))),`(⟨σ',_,Ztv,q⟩),`(eZ (λx:Vbwbal.Person=>x.most != 99)),`(λb ps e=>⟨#[],by rw[e];simp⟩),`(.tup [nat p.1,nat p.2]),`(Option (Value×Nat)->Shared->Prop)]
def zZk:ZZ:=#[`(aa (Zgm ZE (kX aR) pA) ai),`(∀i σ H,i<=xs.length->X6->YO),`(Zw i.ab (.lst (kO R.plan ab'))),`(λb o hb e=>(sb.2 b hb).trans e),`(.Assign [Zbl f pos'] value pos),`(Zv "present_persons" yU 1 (C0 A)),`(P.persons.map λx=>Zjy),`(PyFlat.played VbwbalNeutral.step),`(Q Z7 (Wz p (.lst [.int z]))),`(Yx (f Zce (.int j u)) Q E s),`(gI X.env.cells scope.names []),`(⟨_,_,_,hd,T.BI,n3,_,NP _,?_⟩),`(⟨rs++[t1],?_,ql q (d_ ht AN)⟩),`(Sum.inl ((g.1|||sh:Nat):Int)),`(.lst ((stepNames P).map aE)),`(V->Ve->Ve->Hp->VK->Prop),`(ZcB (mS (.ref oW) (.ref r4))),`(aeI (h₀:=X.base) I.ok.mod.xx),`(k b o (λz=>hc (by simp[z])) e),`(P.steps.map λx=>Zdv),`(qg Cr (sG _ _ _) Pq (afU _ _)),`(amendments R.entries),`((cH m ZgD).fits es.size=true),`(I.base.keep b o e n hb hx),`(I.laid (a:=s.heap.objs.size)),`(vB P w K mg base A outer s H),`(I1.qe hle (I1.aC.fresh hle)),`(Txt.join (Str.ofString " ")),`(az rX hr rfl (aa Zed ai)),`(by show 2<=sizeLine;decide),`(cellsFrom h.objs.size names),`(k H1 rb0 s1 (λ_ _ _=>hrb0)),`(rooms x-(q.1.length:Int)),`(.Compare a [op] [b] pos),`(occurrences x y 0 x.length),`(λi x z H H' hz s y=>?_),`(by rw[aq];exact h1),`(((w.map Zh)++s::r).Nodup),`(.tup [nat y.1,nat y.2]),`(Zv "bar_of" yY 15 (C7 A)),`(Zv "is_step" yW 1 (C3 A)),`(Zv "room_of" yT 1 (CZ A)),`(Y1 x-(q.1.length:Int)),`(bZ.k (k:=Sum.inr "after")),`(cellsFrom YW scope.names),`(w.params.setOrder a ep),`(λ_ _ _ _ _=>(aZ 5 nd)),`(λc v hc q=>k c v ?_ q),`(Builtin.Str.spaceWords a),`(I1.kept (t':=s1.toks) hk),`(Zv "choices_of" yX 2 C4),`(az p8 hr rfl (ZL ai)),`(behind P o step x),`(by rw[aq,aq,du gR,aq]),`(dq K dE Ga Oz (Em K) Yp),`(hl i σ _ (iP hi)),`(je _ (je _ (KU hb e))),`(s.heap.Ns X.env.locals m),`(⟨[.type "set",a],[]⟩),`(Zv "can_fill_parts" vi),`(Zv "share_any" yS 1 CY),`(Ww q (w.map Zh++rest))]
def zZl:ZZ:=#[`(aO.mpr ⟨p,hp,rfl⟩),`(de X (compareOp .NotEq)),`(de X (compareOp .NotIn)),`(hi pins s σ H _ I h),`(jJ (fs.lookup f) (mA f)),`(s.heap.FunFrames X.base),`(λi=>bs.getD i false),`(λz=>hb (by simp[z])),`(⟨_,dj _ rfl,rfl,?_⟩),`(⟨Zf,Zf,λw hw=>?_⟩),`((zs.take m).map ZZ),`(.lst (nV.map V.int)),`(Dw.readsAll aC KX ds _),`(Km P wf rb a b c ij hn),`(V->V->Hp->VK->Prop),`(Zv "partners" yV 1 C1),`(Yo q2 (.lst (iv tx))),`(Zg9 s.heap.objs.size),`(sliceBounds lo hi none),`(.Attribute e f pos),`(I.mod.glob.keeps I.bk),`(PySem.W.methodObj Yn),`(X.mg "enumerate"=none),`(lT (eE cS Zaj aR ZO)),`(lq.nodup_iff.mp ok.nd),`(sD (Eu I hg hm ?_ j5)),`(∃u,h'.get? e=some u),`(⟨w.toArray⟩),`(.builtin "sorted"),`(.inl ⟨_,Xg,rfl⟩),`(.lst (z.2.map aE)),`(Bool->Shared->Prop),`(Ze->Hp->VK->Prop),`(ah YX (cut H3 i.aH)),`(aj (Cy ho hd Zf ?_)),`(bw (ps.take i) st),`(de X (binaryOp .Add)),`(jj hu Yu ZH Z3),`(upd H4 rd (.own r)),`((jO o xs).take m),`((ko o ss).take m),`(I.laid (t':=s.toks)),`(Nat->Option Choice),`(OR X pins σ tg R),`(PySem.W.plainOver K),`(aF (hS e _ (a0 hT))),`(aI (bc e _ (a0 hT))),`(absurd h2 (lQ 32 r)),`(bits b ^^^ bits a),`(by simpa using e),`(by simpa using h1),`(by simpa using h2),`(h.Ns mainGlobals mg),`(rule i j t t' s _ _),`(sZ P ab Zbp (zm wf)),`(t.fits es.size=true),`(λ_ _ _ _ _=>Yh),`(λi=>rs.getD i 0),`(.lst (nats q.1)),`(.lst (nats q.2)),`(.lst (nats z.2)),`(Dp.readsAll I ds _)]
def zZm:ZZ:=#[`(HO.ins A.record dx),`(PyFlat.calls shape),`(Str.ofString ""),`(Sum.inl (m:Int)),`(Sum.inl (p.1:Int)),`(T.jW "numbers" ZT),`(V->Hp->VK->Prop),`(X.A.units+64<cLine),`(ZbM dd (mq .ba)),`(e=x∨H e=some UK),`(eval iter X.env),`(p1 (p1 (p1 ZcY))),`(α->Shared->Prop),`(λ_ _ q=>cV _ q),`(λx1 x2=>x1++x2),`(λx=>x.1.isSome),`(⟨σ',H',I.nJ,q⟩),`((UX c).take m),`(.builtin "all"),`(.builtin "any"),`(.builtin "min"),`(.lst (iv nums)),`(.lst (refs ys)),`(Ho l c t m n nums),`(K9 (n:=zs.length)),`(PyFlat.call shape),`(PySem.W.makesIn K),`(T.KN "record" ZT),`(T.kq "person" ZT),`(T.kq "target" ZT),`(Value.int (k:Int)),`(W 0 m (Yo D Ye)),`(Yo pd (.own p)),`(Wb (c8 w) U c),`(Vu items.size),`(aj (HG ho hd ?_)),`(apart ok.nd hq hr),`(by simpa using h),`(jJ.some_of (v:=v)),`(k H3 rb0 ZgQ hrb0),`(kS ok (ps++[p]) m),`(λe=>aK e.symm),`(⟨_,λ_ _=>di⟩),`(.cons ru .nil),`(.int (val i:Int)),`(.lst (nats R)),`(.lst (nats t)),`(.lst [nat st]),`(Gl X "enumerate"),`(HT.iW its.length),`(absurd (bx.mp e)),`(ha pins s1 σ H1),`(one D.F8.symm),`(one D.F9.symm),`(one D.F_.symm),`(one D.vH.symm),`(one D.z2.symm),`(one D.z3.symm),`(seqIndex_neg Zb),`(tupleKind ZbF),`(∀x,0<=rooms x),`((tl x).drop i)]
def zZn:ZZ:=#[`(.inr (.inl z)),`(.inr (.inr z)),`(AllBare s'.gens),`(At x y x.length),`(Ct s.heap l1 l2),`(I.laid (t':=tk)),`(I.ok.Ao b o e),`(Int->Int->Int),`(Nu wf _ Zj _ h),`(PySem.Within mA),`(T.jW "text" ZT),`(T.kq "text" ZT),`(X.mg "zip"=none),`(ZjU (ka.zip us)),`(aD K Yh rfl),`(ag.of hP.roles),`(bJ (λs=>2 ^ s)),`(by rw[bb];omega),`(h.get? b=some o),`(h.objs.size<=a),`(mL.foldl Zeg f),`(nats (e_ rs)),`(some (c:Int)),`(some (k:Int)),`(ss.foldl Zeg f),`(vals.map toV),`(ws.getD k []),`(λ_ _ _ e=>e),`(⟨ZD h1,h2⟩),`(.cons (.int _)),`(CX outer H s E),`(FQ sL sT h2),`(St->Hp->Prop),`(W.item i s _ _),`(Zd6 x.toNat),`(ZgX z.toNat),`(Vn p.1 p.2),`(Z5 ZR Z2),`(ZaU ZE Z3),`(ag.of yb.steps),`(bE T.Nf rfl),`(bE T.Ng rfl),`(bE T.Nj rfl),`(bs.map V.bl),`(ch∈subsets l),`(entryFor table),`(fs.length<1000),`(gI cells names),`(one (oO cE)),`(qT T.FE rfl),`(qT T.FF rfl),`(seqIndex_of h0),`(λxs e=>ZbC),`(⟨L,hL,rfl⟩),`(I.step (g':=s.gens) (d':=s.drawn) (ch:=ch) (λb hb=>⟨(hf b hb).2.2.2.1,(hf b hb).2.1,(hf b hb).2.2.2.2.1,(hf b hb).2.2.2.2.2⟩) (λb o _ _ hc e _=>k b o hc e) (λb o _ _ hc e _=>⟨o.slots,k b o hc e⟩)),`(⟨a,rfl,UB,gH W9 Pv ((Zi _).mpr ⟨none,rfl,ZW,λss hs=>by simp at hs⟩) (λi σ H' _ hv=>let⟨_,_,s4,_⟩:=(Zi _).mp hv;ag.of (s4.at ha)) ?_ ?_⟩),`(I1.laid (t':=tk) (a:=h'.objs.size) (o:=Ex h'.objs.size Zq9 c' fB) (h':=h'.push Zd7) ZhR ZC (abD e1)),`(∀(i:Nat) x σ H,xs[i]? =some x->X6->g x σ H fun σ2 H2=>tb {D with nx:=Pv (i+1),ct:=Pv (i+1),bk:=D.nx} σ2 H2),`(λx xs H Q=>∃a b,x=.str a/\xs=[.str b]/\(b.length==0)=false/\a.length+2<=sizeLine/\Aa (Zji b) H Q),`(bg (PW.pt (px ZpL Zpb)) U9 bp),`(λb ob hb q=>(sb.2 b Zlh).trans (hk b ob Zlh Zlh q)),`(⟨hc.1,Mt w c hw (λp hp=>hs p.1 (my _ Zla)) kG.1 (λhm=>(kG.2.2 s hm s aY) rfl) hc.2⟩)]
def zZo:ZZ:=#[`(⟨λb o e n hb hx=>?_,λb o e n hb hx=>?_,I.base.free,λb o e hx=>?_,I.base.o6,I.base.nr,I.base.o8⟩),`(aN (h pos pins s σ H _ I hq) λus s1 ⟨xs,H1,I1,r,z,q⟩=>⟨by rw[←r.length];exact z,?_⟩),`(⟨Zj,(by show(1 :Nat)<1000;decide),(by show(2 :Nat)<1000;decide),(by show(3 :Nat)<1000;decide),k⟩),`(az dZ hr rfl (aa (az rY hr rfl (XY ai)) ai)),`(⟨r,i,j,R.plan,R.absent,ZF,rfl,cZ,wr.wf,λH1 u1 s1 _ AL=>⟨_,.inl ⟨_,ag.of AL,rfl⟩,?_⟩⟩),`(hk d o (λq'=>hb (by simp only[aJ,mv,lV]at q'⊢;rcases q' with q'|q'|q'|q'|q'<;>simp[q'])) q),`(compEnvC scope (ZkS Zkk) s.heap.objs.size),`(Ay hlen keep f (λi H hi s=>?_) (λH s=>⟨xs,Zgp,Zb⟩) ZkJ q),`(.inl ⟨_,ag.of hR.plan.persons,(aq _).symm⟩),`(Ew (zs:=List.range P.persons.length) Zie (by rw[Om,eM]) (by rw[eM];omega)),`(fh "absent" (V.ref p2) [("plan",V.ref p)]),`(∀whole,isTrue a X.env whole=(do let v←whole;standAt a.pos;holding [v] (truthy v))),`(λx xs H Q=>∃a,x=.str a/\xs=[]/\a.length+2<=sizeLine/\Aa (Txt.words a) H Q),`(Oh ha hb I h λv u s2 x y H2 I2 rx ry q=>ho pins s2 σ H2 x y v u Q I2 rx ry q),`(by obtain⟨o',lF,mm,kE,r'⟩:=hm;rw[ho]at kE;cases kE;exact⟨_,lF,mm,hL,r'⟩),`(λv s₁=>Yx (eval b X.env) (λu s₂=>Yx (f v u) Q X.xe s₂) X.xe s₁),`(∀v u s2 x y H2,ZU H2 s2->WY->XC->R x y H2->Yx (f v u) Q X.xe s2),`(K8 (x:=ZlB) (by show w.toArray.size<=16777000;simp;omega) Xa),`(SameBut.unlock (od:=od) ⟨λb o' hb t e=>?_,λb ps e=>?_,λPt h=>?_⟩ hd),`(aN ZgL λus s1 ⟨vs,H1,I1,r1,q1⟩=>hc pins s1 σ H1 vs us Q I1 r1 q1),`(Vbwbal.listed ((List.range R.plan.persons.length).filter λx=>Zd6 x==0)),`(⟨λz hz=>?_,λa b dc y ha hb=>?_,λa b dc y y' ha hb=>?_,λy=>?_⟩),`(I.turned (λb o hb e=>kk b o (by simpa using hb) e) f0 f1 f3 f4 f5),`(PySem.W.fnOf name qual params body scope dV kV doc pm an aG ct),`(nat ((XD (match kv.1 with | .inl n=>n.toNat| .inr _=>0)).getD 0)),`(.ins A.call dx (qh (nat m) (.ref nl) (.ref tl) (nat places))),`(I.step (g':=s.gens) (d':=s.drawn)),`(⟨.int xs.length,H,YJ,⟨_,by simp only[dR];rw[hlen]⟩,q⟩),`(YI (Builtin.SmallTypes.ownedTupleIsFree Zdd>>= _) _ _ _),`(call_meetsIn aeK dd.typeIs PySem.F.entry_dict_get (asl _ _ _)),`(compPost Yf X.A X.xe use Qf Vi),`(upd (U6 q (.lst [nat x])) p (.lst (nats ch++[nat x]))),`(⟨r,i,j,R.plan,R.absent,ZF,rfl,cZ,wr.wf,wr.wc,λH1 s1=>Yy⟩),`(j_ h' s.heap.objs.size es ep (cH ZmI (rn w))),`(upd H7 l8 (.lst (nats (ln pe.name)++nats (ln pe.roles)))),`(⟨λp hp=>?_,λs t h1 h2 h3=>?_,λs t h1 h2 h3=>?_,λy=>?_⟩),`(⟨ho,λu' Lo=>tW ry fy rv yC u' (by simpa using Lo),?_⟩),`((Obj.mapFields (·.setIfInBounds 1 (rawInt ((i:Int)+1))))),`(k H true ZfA ⟨λ_=>sat_empty P _ gm,λ_=>rfl⟩),`(∀h',Heap.ExtBut it s.heap h'->Q none {s with heap:=h'}),`(⟨_,x,rfl,X1,rfl,λys hy=>ZsW⟩),`(⟨rs,by rw[h.lists _ _ e,e2],gA (λ_ _ z=>(dQ z).1) q⟩),`(λkv=>if kv.1=Sum.inl (m:Int)then(kv.1,nat v)else kv),`(⟨rfl,Zcn (λb ob hb e=>eb b ob hb e) f0 f1 f3 f4 f5⟩),`(aN (hc pins s σ H _ I h) λd s1 ⟨H1,I1,q1⟩=>?_),`(∀b o,b∉ch->s.heap.get? b=some o->h'.get? b=some o),`(absurd (show p∈([]:List ZfL)++[]from hp) Zf),`(⟨_,rfl,agc (s:={s with heap:=h'}) z' λjF Ht sb=>?_⟩),`(⟨rfl,Zcn (λb o hb q=>eb b o hb q) f0 f1 f3 f4 f5⟩),`(.ListComp elt [⟨target,iter,ifs,0⟩] scope pos),`(Zcn (λb ob hb e=>(sb.2 b hb).trans e) f0 f1 f3 f4 f5),`(aN ZgL λus s1 ⟨vs,H1,I1,r,q⟩=>⟨I1.ku,?_⟩),`(YI (Builtin.SmallTypes.nextOf (.ref i1)>>= _) _ _ _),`(aj (nI hz rfl (x:=.ref TI) rfl (aj (sC dY rfl ?_)))),`(bJ (λs=>if g.1&&& s=0/\g.1|||s=m then g.2 else 0)),`(⟨r,i,j,P,ab,c,rfl,hR,wf,wc,λH1 d1 s1 anx uL=>?_⟩),`(pushCells (s.heap.push {cls:=Zax,data:=.dict #[]})),`(.lst [nat (eK z.2),nat (eT z.2),nat (eP z.2)]),`(∀b u,b≠e->h.get? b=some u->h'.get? b=some u),`(⟨r,i,j,P,ab,c,rfl,XB,wf,λH2 u s2 hu0 hu=>?_⟩),`(Az (l:=[(a,t)]) (ys:=Zji b) (k:=s.toks)),`(i4 2 K rfl (dn (aZ 5 nd) (dn (aZ 6 nd) iZ)))]
def zZp:ZZ:=#[`(kvs.map λkv=>if kv.1=k then(kv.1,y)else kv),`(pq (eR (Z5 (az mh hr rfl (ZL X4)) Z2))),`(Builtin.«zip.__next__» ⟨[.ref z],[]⟩),`(T8 (aaw hu (bj (uc K) ZH aR Z3) ZE) rfl),`(λi=>((iB X.w p ep es)[i]?.map Zh).getD 0),`(∀b o,b≠a->NT o->H b=some o->H' b=some o),`(∀b u,s.heap.get? b=some u->h'.get? b=some u),`(upd H3 Tp (.tup [aE pe.name,nat pe.most])),`(⟨its.toList,o,n,hv,KX _ _ e,hc,by simp[hd]⟩),`(Heap.IsList (Shared.heap ⟨hp,g,d,tk,os⟩)),`(Yo fo (.lst (rf.map V.ref++rl.map V.ref))),`(aj (Hy (aj (nI hz rfl (x:=.ref TO) rfl ?_)))),`(az p9 hr rfl (aa (jj hu Yp cW Z3) X4)),`(show s.heap.IsTuple a its.toArray from p),`(λi v=>∃e,(VN es)[i]? =some e/\v=e.2),`(λx=>[text "most",x.name,decimal x.most]),`(.lst [.str "step",aE pe.name,.str "by"]),`(I1.laid (t':=s1.toks) (λb u e=>XU) ZC ?_),`(uT (n:=xs.length) Pv h0 (λi σ H hi p=>?_)),`(λi h=>h.IsKeyIter it d i kvs.length ep),`(⟨⟨.none,he⟩,hit,Nat.succ_ne_self _⟩),`(.Call (.Name "enumerate" p) [e] [] pos),`(IsZip h' z TI TO (rawInt s.heap.objs.size)),`(Paired (λr (p:Nat×Nat)=>H r=some Zj8) rs),`(aN (ha pins s σ H Q I h) λc s1 e=>?_),`(aao rfl T.KI (aa (Xd (aa ZcI ai)) ai)),`(absurd (show b∈([]:List Addr)from z) Zf),`(swapsWith e (some (.Name x pos')) pos.line),`(λh' c' kp e=>fin its r' hz h' c' kp e),`(⟨y.1,Or.inr (by rw[←e];exact hy),e2⟩),`(⟨y.2,Or.inl (by rw[←e];exact hy),e2⟩),`((text "step"::n::text "by"::l).map aE),`(.inl ⟨_,ag.of gX.persons,(aq _).symm⟩),`(Kb (ep:=ep+1) (es:=dI) (t:=Zjc) dI),`(aN VA λv s1 ⟨x,H1,I1,r1,q1⟩=>?_),`(aN Zae λv s1 ⟨x,H1,I1,r1,q1⟩=>?_),`(aN Zcq λv s1 ⟨x,H1,I1,r1,q1⟩=>?_),`(eR (Z5 (az p_ hr rfl (ZL Y7)) Z2)),`(eR (Z5 (az yt hr rfl (ZL Y7)) Z2)),`(nG X.prog X.w X.K X.mg X.base x C ps k sp),`(wpAny_loadName_cell I.ok.kind hk hc hcell),`((hk s).mpr (EX s ((kC _ _ s).mp h2))),`((hk t).mpr (EX t ((kC _ _ t).mp h3))),`(ZeZ YN (by rw[bH,Av]) (by rw[Aw];omega)),`(attributeBase e f X.env Yz=eval e X.env),`(cR k0 Zod (az dZ hr rfl (aa ZH ai))),`(eO ((Sum.inl (z.1:Int),nat z.2)::cntK r)),`(kc _ _ (Kz (by show(4 :Nat)≠1;decide))),`(.Call (.Name "zip" p) [e,e2] [] pos),`(Xc H λx H1=>tb σ H1 λy H2=>R x y H2),`(aI ⟨_,.inl ⟨_,Zdy,rfl⟩,?_⟩),`(abn (by rw[CC dB];exact cq (asf ds) z2)),`(k _ (by rw[c1];exact ZW) ⟨_,q1,?_⟩),`(λx=>hc (by rw[x];exact bo.mpr rfl)),`(∀{a:Addr} {xs:Ze},YO->ag K H' a xs),`(∀{a:Addr} {xs:Ze},VJ->bM K H' a xs),`((p.1,p.2.filter λx=>!(xs.contains x))),`(.AugAssign (.Name x pos') op e pos),`(Builtin.Str.occurrences a b 0 a.length),`(aj (nI hz rfl (x:=.bool false) rfl ?_)),`(aj (show YF (pure ()) _ E s from Yw)),`(by rw[ax (λe=>xI e.symm)];exact I.ins)]
def zZq:ZZ:=#[`(envOfC qual ZdW s.heap.objs.size f),`(gC.mpr (.inl (by rw[ea];exact dc))),`(gC.mpr (.inr (by rw[eb];exact dc))),`(seqObj "list" acc.toList.toArray 0),`(upd H5 Tp (.tup [nat z.1,nat z.2])),`(λ(z:Int)=>VbwbalNeutral.whole64 z),`(∀b o,ND o->H b=some o->H' b=some o),`(⟨o1,e1,λv q=>by rw[d1]at q;cases q⟩),`(⟨o2,e2,λv q=>by rw[d2]at q;cases q⟩),`(aI (Y9 (by rw[bt,af (.inl he)]) ZW)),`(aI (Y9 (by rw[bt,af (.inr hf)]) ZW)),`(ab0 hl.isList λs₂ e2 st aK=>?_),`(aj (nI hz rfl (x:=.none) rfl (aL ?_))),`(gC.mpr (.inl (by rw[←es];exact h1))),`(gC.mpr (.inr (by rw[←et];exact h1))),`(s.at (λq=>by rw[q,hx]at e;cases e) e),`(upd H3 Tp (.tup [nat m,.ref z.1])),`(λm v z H' hv hz s2 R S bc hS=>?_),`(λm v z H' hv hz s3 R S bc hS=>?_),`(⟨.str _,H,I.tok k,⟨t',rfl⟩,h⟩),`(Ed q (by rw[bt,he];rfl) sc oC PQ),`(List.range R.plan.persons.length),`(aN VA λc s1 ⟨H1,I1,q1⟩=>?_),`(absurd (Value.type.inj (Dc q).1) Zj),`(compEnvC scope Zgy s3.heap.objs.size),`(sL.keep _ _ hb t (s1.keep _ _ t e)),`(show¬(ws.length:Int)=3 by omega),`(λ_ s'=>∃σ' H',Zbi/\Q σ' H'),`(∀b xs,H b=some Vk->H' b=some Vk),`((cH (m|||1<<<x) led,Array.range Ua)),`(.inl ⟨_,ag.of jY,by rw[gG];rfl⟩),`(.lst [.str "person",aE pe.name]),`(NQ I (by rw[e];exact True.intro) hs),`(ZeM "can_fill_parts"=some Zge),`(Z5 (az mi hr rfl (ZL ai)) Z2),`(i4 2 K rfl (dn VI (dn WT iZ))),`(s2.tab Pt (sL.tab Pt (s1.tab Pt h))),`(show cB G6 (aA wF) _ _ from Yi),`(show cB OZ (aA zT) _ _ from Yi),`(show∃t,u=Value.int i t from r),`(show∃t,u=Value.str x t from r),`(∀t∈(w.map Zh)++s::r,ZS t=none),`(⟨P.persons.length,Zoi,Zb,Zb,?_⟩),`(PySem.W.KdlSrc prog w T r d n P OK),`(az FA hr rfl (ZL (aa cW Y7))),`(dU (Wo ZE (aa (Xd Zct) ai))),`(el λj=>if j=k then t else f j),`(gc K "Record" "Record.__init__" DI),`(inl ps m8 (by rw[kL];exact es)),`(inl pt xN (by rw[oF];exact et)),`(show(ws.length:Int)=3 by omega),`(upd H0 l (.lst (nats a++nats b))),`(yj (s:={s with heap:=h',toks:=tk})),`(λH p=>⟨xs,p.1.seq hx,Zb⟩),`(λb o hc e=>⟨o,k b o hc e⟩),`(λi h=>h.IsStrIter it ty x t i),`(⟨rs,UZ,gA (λ_ _ e=>s.at e) h2⟩),`(.BoolOp .And (a::b::rest) pos),`(.lst ((personNames P).map aE)),`(λB outer s H vs Q E hr h=>?_),`(⟨rs,e,gA (λ_ _ z=>s.at z) q⟩),`((X.mg "__name__").getD .none)]
def zZr:ZZ:=#[`((text "person"::n::l).map aE),`(.Assign [.Name x pos'] e pos),`(.BoolOp .Or (a::b::rest) pos),`(.Compare a [op,tP] [b,c] pos),`(Zw i.en (.lst (xs++[.ref e]))),`(ZcB (mS (.ref ls) (.ref lp))),`(ZaF (setNext a sl i ep) Q' ZeQ s),`(bT (show h.get? a=some _ from x)),`(bg (eR (Z5 ZE Z2)) Ut bp),`(gc K "Entry" "Entry.__init__" DL),`(λi c H' hc s1 R S bc hS=>?_),`(⟨H,YJ,by rw[ab5 r];exact q⟩),`(⟨Zf,by simp;omega,λw hw=>?_⟩),`(⟨e,ZkK,vs,qE h2,_,e,rfl,_,rfl⟩),`((kC _ _ s).mpr (ux s h2 es)),`((kC _ _ t).mpr (ux t h3 et)),`(.Assign [.Name y py] Zci CU),`(.Call (.Name x p) [] [] pos),`(.lst [nat (Wm ZF).length]),`(Zo "answers" "answers" zY f fd),`(Zbk "Entry" A.entry y4 1 (IE A)),`(Vm (storeName X.env x u) Q E s),`(ZoA (ch:=[]) (λ_ z=>nomatch z)),`(k H6 q (cG.trans gz) (gz.at eS)),`(s.heap.push PySem.W.emptyDict),`(⟨x3,dx,_,_,_,_,rfl,au,rfl,?_⟩),`(.BoolOp .And (b::rest) pos),`(.tup [nat z.2.1,nat z.2.2]),`(.tuple [.int p.1,.int p.2]),`(Int.ofNat R.entries.length),`(Inv X pins (σ.set i VS) H s'),`(P.persons.map λx=>x.roles),`(Un (nt X.stack) ch H H' s.heap),`(Zv "is_signature" BZ 1 (IA A)),`(Zv "unlike_steps" BR 2 (Iq A)),`(Zk0 (decide (rooms x-1=0))),`(e8 (zs:=ws) Xg X0 Zb Xa),`(gc K "Call" "Call.__init__" DN),`(gc K "Desk" "Desk.__init__" DM),`(gc K "Part" "Part.__init__" DK),`(gc K "Plan" "Plan.__init__" DJ),`(h'.IsListIter s.heap.objs.size),`(λx H' hx s1 R S bc hS=>?_),`(⟨dx,_,h2,by rw[h1];exact aY⟩),`((stepNames P).contains a=true),`((stepNames P).contains b=true),`(.BoolOp .Or (b::rest) pos),`(PySem.W.CodeHd X.base c A.tab),`(Str.ofString "0123456789"),`(Zv "told_before" BS 1 (Ir A)),`(Zw p (.lst (xs.set j v))),`(Y9 (by rw[bt,he];rfl) s1),`(Zbk "Part" A.part yZ 1 (C2 A)),`(Zhi xs.length hi-Zhi 0 lo),`(abA (n:=P.persons.length) Zb),`(aj (Cw hz Zf λg1 fF s1=>?_)),`(comprehension Zci scope X.env),`(fh "entries" (V.ref p3) Zok),`(h y (Ea.mpr ⟨hy,h1,h2⟩)),`(ie hl hd (by intro z;cases z)),`(subscriptTail_builtinR (x:=w)),`(upd H6 q (.lst [.ref lo]))]
def zZs:ZZ:=#[`(zs.filter λz=>!cI z.2 gx),`(λv H2=>v=.ba /\Q Zdp H2),`(⟨⟨o,e,ex.1⟩,λa e2=>?_⟩),`((recsOf q).find? Zd8=some dr),`(.Call (Zar p) Za2 [] pos),`(.inl (.inr ⟨o,s0 _ _ h⟩)),`(P.steps.map λx=>x.roles),`(PassesOwn Yf X.A X.env X.xe),`(Zv "role_names" BU 1 (Iu A)),`(YI (field Zdd 2>>= _) _ _ _),`(YI (field Zdd 3>>= _) _ _ _),`(az qa hr rfl (aa Zbf ai)),`(by simp only[dR]<;>omega),`(hc pins s3 σ H3 _ I3 q3),`(he pins s1 σ H1 _ I1 q1),`(hf v u s2 x y H2 I2 r1 r2 q2),`(hs i x σ _ (y xs (Zk3 p)) p),`(iu h' s.heap.objs.size x y u),`(s.heap.IsKeyIter it d i n ep),`(⟨by rw[aq,eM],λb hb=>ZtS⟩),`(⟨z.1,ht _ _ z.2.1,z.2.2⟩),`(Call_ (Zdg aed (ZjG hs cC))),`(Paired (jc H) (Vn Zhn Yr)),`(Value.ref YW::(us++ds)),`(Vbwbal.listed (Zkv z.toNat)),`(Zv "goes_with" B2 3 (IC A)),`(Zv "put_entry" BV 1 (Iv A)),`(bV (s2.trans gz) hl (gf e1)),`(by simpa using λq=>Uz),`(hb wh pins s1 σ H1 Q I1 q1),`(mg "answers"=some (.ref fa)),`(r.foldl (λa x=>a++(32::x))),`(⟨[],au,rfl,λz hz=>Vd⟩),`(⟨n-(i+1),Zb,rfl,bG,p'⟩),`(⟨x,dx,_,_,rfl,au,rfl,?_⟩),`((List.range n).map val),`((cn.take m).foldl G []),`(.tup [nat XG,.ref ra]),`(IJ (id:="object.__init__")),`(X.gM.heap.FunFrames X.base),`(Yx (eval Um X.env) Q E s),`(Zw T (.tup [nat i,x])),`(aF (low.resolve_right Zb)),`(ak (ay (bE T.ac8 rfl))),`(ak (ay (bE T.ada rfl))),`(az ym hr rfl (ZL X4)),`(by rw[I.rj hl iH];exact hx),`(by rw[I.rj hl m6];exact hy),`(by rw[I.rj hy hq];exact hx),`(completion R.plan R.absent),`(fO.same s4 ⟨kvs,jB,rL⟩),`(h (by rw[bo.mp q];exact m)),`(kE pins s4 σ H4 y z' u w'),`(oT K (.str ZlB) H w.length),`(some ((p::r.take n)::xs,t)),`(⟨dd.typeIs,λb q=>?_,hd⟩),`(⟨⟨jr,hc.1,hc.2⟩,h⟩),`((isName a&&isName b)=true),`(.lst (ZgO (V.bl false))),`(Bool.and_eq_true_iff.mp p),`(HO.lst (x_1++[nat x])),`(Heap.SameBut it s.heap h')]
def zZt:ZZ:=#[`(List Key×Addr×Value),`(X.env.qual++"<lambda>"=rA),`(Zv "pair_of" BW 1 (Iw A)),`(ZoE s3.heap.objs.size),`(ak (ay (bE T.Nc rfl))),`(cb (λl=>some (HO.lst l))),`(iP (x.above y c (kP h))),`(lZ rooms x q.1.length),`(s.heap.IsListIter i2 l2 k),`(s.heap.IsListIter i3 l3 k),`(s.heap.IsSliceOf sl vl vu),`(λp hp=>hq p (ZD hp)),`(⟨Cf λi=>?_,Cf λi=>?_⟩),`(⟨_,UQ,_,g0,eQ _ _,?_⟩),`(⟨_,dY,λv q=>nomatch q⟩),`(⟨_,fJ,λv q=>nomatch q⟩),`(⟨_,hz,λv q=>nomatch q⟩),`(⟨a::A,aY ..,λb hb=>?_⟩),`(.Slice lo hi none p2),`(.builtin "set.__new__"),`(.lst (nats (e_ ZeK))),`(I2.unlock e (I.An hd mu)),`(Inv (X.lK E) pins σ H s),`(Nat.pow_le_pow_right Zj),`(Q (nat R.entries.length)),`(Sum.inl (bits Z8:Int)),`(Zv "amends" B5 1 (IH A)),`(Zv "may_do" BX 1 (Iy A)),`(YV 19 fa fd ka (sW A K)),`(ZjR aG A outer s H E),`(Ww (c8 (w++[(st,x)])) U),`(aj (aL (wpAny_throw ?_))),`(argsOk "object.__init__"),`(cb (λz=>z.testBit i) h1),`(fM (l:=R.entries) (i:=m)),`(hl pins s σ H _ I h),`(hv pins s σ H _ I h),`(lq.mem_iff.mpr (je _ hs)),`(pure (ForInStep.yield r)),`(rZ.mpr (by rw[mU];omega)),`(starEach [e,f] X.env),`(λD4 H4 uN s4 h4=>?_),`(λq=>hb (by simp[q])),`(⟨_,ag.of (s1.at hl)⟩),`(by obtain⟨x,_,rfl⟩:=aO.mp hb;rfl)]
def y:ZY:=#[`(tactic|(simp! [])),`(tactic|(constructor)),`(tactic|(have hsz:=sz)),`(tactic|(exact this)),`(tactic|(refine aI ?_)),`(tactic|(intro pins s σ H Q I h)),`(tactic|(refine aF ?_)),`(tactic|(obtain⟨t,rfl⟩:=rx)),`(tactic|(dsimp only)),`(tactic|(have hu:=gi hr;have hsz:=sz)),`(tactic|(refine aF Ztn)),`(tactic|(obtain⟨r,c,i,j,R,k,rfl,hR,wr,hc,hk,q⟩:=h)),`(tactic|(intro pins s σ H x y v u Q I rx ry h)),`(tactic|(obtain⟨r,c,i,j,R,k,rfl,_⟩:=h;rfl)),`(tactic|(obtain⟨z',br,rfl⟩:=Zby;rw[hz]at br;cases br)),`(tactic|(have cZ:=hR.fC)),`(tactic|(refine aj ?_)),`(tactic|(refine⟨Tp,_,rfl,bM.of au,rfl,?_⟩)),`(tactic|(intro pins s σ H D I h)),`(tactic|(obtain⟨h1,h2⟩:=Zb9)),`(tactic|(by_cases e:y=x)),`(tactic|(have n1:=T.dG "plan" ZT)),`(tactic|(intro pins s σ H R I h)),`(tactic|(subst e;rw[af rfl])),`(tactic|(obtain⟨zs,he,ez,hz⟩:=hR.entries)),`(tactic|(intro pins s σ H xs us Q I r h)),`(tactic|(obtain⟨t,rfl⟩:=r)),`(tactic|(intro σ H3 hv)),`(tactic|(obtain⟨e0,_,e⟩:=bare Zj Zj;rw[zero (nc 0 rfl)]at e⊢)),`(tactic|(have hi:=hR.fC.ins)),`(tactic|(rw[filter_all]at h)),`(tactic|(subst e;rw[t]at k)),`(tactic|(rw[ae h1]at h)),`(tactic|(unfold lineOf)),`(tactic|(obtain⟨dx,nl,tl,pl,c1,c2,c3⟩:=(hc.same (jh H i.aH)).ex;have n1:=Zmf)),`(tactic|(intro X hP hw hK hc i pins s σ H E I hf st hg;subst hP hw hK)),`(tactic|(obtain⟨r,i,j,P,ab,c,rfl,_⟩:=h;rfl)),`(tactic|(obtain⟨st,aT,rfl⟩:=Wr)),`(tactic|(obtain⟨t',rfl⟩:=ry)),`(tactic|(intro m y σ H2 hy hv)),`(tactic|(rw[hz]at br;cases br)),`(tactic|(by_cases h2:ws.getD 0 []=text "person")),`(tactic|(by_cases h3:ws.getD 0 []=text "step")),`(tactic|(rw[aX hl,gK]at k;exact aF UP)),`(tactic|(have cG:=(s1.trans s2).trans s3)),`(tactic|(obtain⟨e,y⟩:=y;subst e)),`(tactic|(rw[z];exact y9 _ _)),`(tactic|(by_cases e:p.1=k)),`(tactic|(by_cases e:y.1=s)),`(tactic|(rw[show its.toArray.any U8=its.any U8 by simp,BM r fs];exact q)),`(tactic|(simp! [];refine⟨r,i,j,P,ab,c,rfl,hR,wf,wc,λH1 d s1 Md hO=>?_⟩)),`(tactic|(obtain⟨x,ex⟩:=fM hi;exact⟨xs,x,Zbm p,ex⟩))]
def ya:ZY:=#[`(tactic|(refine aF ⟨_,ZaZ,_,g0,eQ _ _,?_⟩;rw[eW])),`(tactic|(have da:Zjx x=ZbU Zd5:=rfl)),`(tactic|(obtain⟨o',e1⟩:=I.base.there b o e hx)),`(tactic|(obtain⟨x,ex⟩:=fM (l:=xs) (i:=i) Zb)),`(tactic|(refine⟨_,Xg,_,g0,?_⟩;simp! [eQ,eW])),`(tactic|(by_cases h1:ws.getD 0 []=text "role")),`(tactic|(by_cases h2:t∈Y8 step∨full=true)),`(tactic|(by_cases h4:ws.getD 0 []=text "most")),`(tactic|(obtain⟨dx,r,i,j,h1,h2,h3,h4⟩:=h)),`(tactic|(obtain⟨p,w,i,P,ws,rfl,_⟩:=h;rfl)),`(tactic|(obtain⟨z,its,n,r,hl,e⟩:=I.xu hH)),`(tactic|(have e:ei.cells.lookup y=some c:=e)),`(tactic|(obtain⟨its,r,pl,hz⟩:=UL)),`(tactic|(cases(show u=Value.ref b from ry))),`(tactic|(obtain⟨g1,g2⟩:=f5 h1 h2 h3 h4)),`(tactic|(obtain⟨p,ix,P,rfl,hP,wf,k⟩:=h)),`(tactic|(obtain⟨L,hL,rfl⟩:=mem q hq)),`(tactic|(obtain⟨p,i,P,rfl,_⟩:=h;rfl)),`(tactic|(obtain⟨q,hq,rfl⟩:=aO.mp hp)),`(tactic|skip),`(tactic|(have:=h _ ht;simp[e]at this)),`(tactic|(intro wh pins s σ H Q I h)),`(tactic|(obtain⟨m,hn,hl⟩:=I.loc)),`(tactic|(obtain⟨h1,dx,h2⟩:=h)),`(tactic|(obtain⟨rfl,rfl⟩:=hr)),`(tactic|(intro m y σ H3 hy hv)),`(tactic|(obtain⟨t,rfl⟩:=ry)),`(tactic|(rw[af h1]at h;cases h)),`(tactic|(rw[af h2]at h;cases h)),`(tactic|(rw[af h3]at h;cases h)),`(tactic|(simp only[zb,hx]at h')),`(tactic|(simp! [c1,T.lG,n1,u6])),`(tactic|(have hlen:=r'.length)),`(tactic|(have jS:=cG.trans s4)),`(tactic|(have E7:=wf.persons)),`(tactic|(rename_i kv p l1 l2)),`(tactic|(have sc:=iy s1 hL.dO;have eI:=hC.same sc;have AN:t1∉i.aH:=hL.dO.n8 xF;refine k _ (by rw[c1];exact sc) ⟨_,q1,?_⟩;rw[c1])),`(tactic|(have n1:=T.dG "plan" ZT;have n2:=Zbn;simp! [hR.ins,T.dD,n1,lR,hR.plan.ins,T.bU,n2,kZ])),`(tactic|(rw[show fh f v ((k,x)::r)=(if k=f then(k,v)::r else(k,x)::fh f v r)from rfl];by_cases hk:k=f)),`(tactic|(refine aF ?_;simp! [iJ.ins,T.bU,n7,nY];obtain⟨rb,h⟩:=h;obtain⟨m1,m2,m3,m4⟩:=xw h)),`(tactic|(obtain⟨e0,_,e⟩:=bare Zj Zj;obtain⟨a,b,ab⟩:=two (nc 2 rfl);rw[ab]at e⊢)),`(tactic|(obtain⟨e0,_,e⟩:=bare Zj Zj;obtain⟨a,ab⟩:=one (nc 1 rfl);rw[ab]at e⊢)),`(tactic|(subst e;obtain⟨o,e,c,d⟩:=st;exact⟨o,e,λv z=>by rw[d]at z;cases z⟩)),`(tactic|(obtain⟨its,rv,p,_⟩:=I.list iH;obtain⟨ll,tp,p2,_⟩:=I.list m6)),`(tactic|(obtain⟨rb,h⟩:=h;rw[t];subst e;obtain⟨h1,h2,h3,h4⟩:=xw h)),`(tactic|(have g0:f_ Zdh 0=some (aE Ug):=Zdw (kQ cY))),`(tactic|(obtain⟨oc,od,kV,doc,pm,an,aG,ct,jl,rfl,lk,lz⟩:=F.ex)),`(tactic|(have n1:=T.tT "steps" ZT;have n2:=T.tT "persons" ZT)),`(tactic|(obtain⟨rfl,hi⟩:=J6 hx;obtain⟨rfl,_⟩:=tw hz)),`(tactic|(subst ey;obtain⟨z,hd,vs,rel,dd⟩:=yF I.aC e)),`(tactic|(obtain⟨sl,e1⟩:=I.base.slot b o e n hb hx)),`(tactic|(obtain⟨r,i,j,P,ab,c,rfl,hR,wf,wc,k⟩:=h)),`(tactic|(intro pins s σ H x xs v us Q I rx rs h)),`(tactic|(obtain⟨r,i,j,P,ab,c,rfl,hR,wf,k⟩:=h)),`(tactic|(unfold ln;simp only[bA,bb,bS,jK];omega)),`(tactic|(obtain⟨a,b,c,d,l,rfl⟩:=HJ (f3 h3))),`(tactic|(obtain⟨z,hd,xs,rel,dd⟩:=yE I.aC e)),`(tactic|(obtain⟨e,n,ne,nf,d⟩:=I.pin p hp)),`(tactic|(obtain⟨f0,f1,f2,f3,f4,f5⟩:=WR)),`(tactic|(have cY:0<ws.length:=sv.mpr ok.ne)),`(tactic|(obtain⟨a,b,c,rfl⟩:=vL (f4 h4))),`(tactic|(obtain⟨a,b,l,rfl⟩:=HK (f2 h2)))]
def yb:ZY:=#[`(tactic|(obtain⟨f1,f2,f3,f4,f5⟩:=FI hf)),`(tactic|(obtain⟨c,q1,q2⟩:=e3 pos cv e)),`(tactic|(rw[t];obtain⟨h1,h2,h3⟩:=Aq h)),`(tactic|(unfold ln;simp only[bA,bb];omega)),`(tactic|(have aT:isStep R z=ZaB ZgG:=rfl)),`(tactic|(obtain⟨a,b,rfl⟩:=HL (f1 h1))),`(tactic|(obtain⟨t,ht,rfl⟩:=aO.mp hp)),`(tactic|(obtain⟨a,b,c,rfl⟩:=vL g2)),`(tactic|(obtain⟨its,r,pl,hz⟩:=Zfc)),`(tactic|(have ha:a=text "person":=h2)),`(tactic|(obtain⟨hp,g,d,tk,os⟩:=s)),`(tactic|(obtain⟨z,hz,rfl⟩:=qN hy)),`(tactic|(subst e;exact I1.qe ZC Zez)),`(tactic|(obtain⟨ra,iF,rfl⟩:=Zby)),`(tactic|(have ha:a=text "most":=h4)),`(tactic|(have ha:a=text "role":=h1)),`(tactic|(have ha:a=text "step":=h3)),`(tactic|(obtain⟨c,hc,rfl⟩:=UO)),`(tactic|(obtain⟨x,hx,rfl⟩:=Wr)),`(tactic|(obtain⟨x,hx,rfl⟩:=UO)),`(tactic|(simp! [fj.ins,T.bU,n1,nX])),`(tactic|(obtain⟨o,ho,hc,hd⟩:=id x;obtain⟨oa,AY,um,Ba⟩:=id y;unfold pyNext;refine aj (zl (Zeb x.typeIs wz (mI wz x.typeIs Rw ?_ (Rx _))));unfold Builtin.«set_iterator.__next__» slotArgs;simp only[afv,qy,kg,↓reduceIte,bind_assoc,jK,aee];refine aj (aL ZmJ);refine aj (PV AY Ba hf ?_))),`(tactic|(have s1:ZQ ZiO:=a0 cY;have LZ:=s1.at hi;simp! [LZ,T.dD,n1,pk];refine⟨_,ag.of (s1.at he),?_⟩;rw[adU,show(refs zs).take kk=refs Zfo by unfold refs;rw[za]];intro p hp;have s2:ZQ (upd ZiO p Zef):=bV s1 (s1.free hp);have xP:H p=none:=s1.free hp)),`(tactic|(simp only[AX,kg,i5];show YI (if(Value.ref d==Value.none)=true then _ else _) _ _ s;rw[ae (show¬((Value.ref d==Value.none)=true)from eh)];refine aj Yw;refine aj (P1 m9 bt ?_);rw[ae (by rw[hsz];simp)];refine aj Yw;refine aj (P0 m9 bt ?_))),`(tactic|skip),`(tactic|(simp only[newExc,newTuple];refine aj (vJ ?_ (by size_fits));refine aj (m:=firstArgMember _ _) (Cz (a:=Value.none) (by first |rfl|(simp only[firstArgMember];rfl)) ?_);refine vJ ?_ (by size_fits);simp only[raiseNew];refine aj (wpAny_handled ?_))),`(tactic|(rw[←fL];obtain⟨m1,m2,m3⟩:=Aq h;refine⟨p,a1,i,P,l,rfl,s2.at uB,s2.at Lw,wf.roles,jD,m2,by simp only[bb]at aC;omega,λH3 r3 s3 LA jY=>?_⟩;have qM:=Zfx;have q2:=q1.same qM;have Lz:r3∉i.aH:=(q1.same s2).dO.n8 LA)),`(tactic|(refine aF ⟨r,i,j,R.plan,R.absent,ZF,l,rfl,Zjv,wr.wf,wr.wc,hl,λH2 l2 s2 bH=>o4 bH Zb λH3 l3 s3 _ b0=>?_⟩;exact ZeZ ZgQ (by rw[b0,Av]) (by rw[Aw];omega))),`(tactic|(have n1:=Zbs;have n2:=Zbn;have n3:=Ui;have n4:=Zhj;have n5:=Zhu;have n6:=Zh5;have n7:=Zaq)),`(tactic|(subst e2;refine⟨_,_,_,_,_,_,_,rfl,Walks.list (A:=X.A.in1) YR _ a aK its.toArray,st,Qc hb,λh' tk hk=>?_⟩;refine⟨.bl _,H,I.kept λb o eo=>hk b o (λjy=>?_) (cV _ eo),?_,q⟩)),`(tactic|(obtain⟨hz,hS,vs,z0,m⟩:kvs.length<=sizeLine/\(a==sysModules)=false/\∃vs,XM/\s.heap.DictOf Zbw a vs:=I.aC a _ ha;have hlen:kvs.length=vs.length:=du z0)),`(tactic|(obtain⟨⟨old,he⟩,hit,aK⟩:=st;obtain⟨xs,x,hq,hx⟩:=hg;obtain⟨its,rv,p,hz⟩:=UL;obtain⟨u,hu,ru⟩:=Zgn;have kI:e<s.heap.objs.size:=bT he)),`(tactic|(obtain⟨z,l_⟩:=fM hi;refine⟨z,l_,?_⟩;obtain⟨u,eu,ru⟩:=rv.get (show(refs zs)[i]? =some ZaJ by unfold refs;rw[cx,l_];rfl);rw[hv]at eu;cases eu)),`(tactic|(simp! [c1,T.lG,n1,u6];refine⟨_,UW,_,bQ (j:=0) rfl,_,UW,_,bQ (j:=1) rfl,r,i,j,R.plan,R.absent,ZF,z,rfl,cZ,_,rfl,?_⟩)),`(tactic|(obtain⟨j,h1,h2,h3,h4,h5⟩:=Oi he;obtain⟨w,ew,kT⟩:=r.get h2;have hl:=r.length;have hn:=tZ;have fin:YB w s:=⟨z,H,I,kT,q⟩)),`(tactic|(intro σ H1 Q1 Q2 f h;obtain⟨v,h1,w,h2,x,n,h3,h4,i,j,h5,h6,b,h7,h8⟩:=h;exact⟨v,h1,w,h2,x,n,h3,h4,i,j,h5,h6,b,h7,f _ _ h8⟩)),`(tactic|(intro pins s σ H vs us Q I r h;obtain⟨a,bs,rfl,hs,q⟩:=h;obtain⟨its,rv,hl,_⟩:=I.list hs;rw[Vals.J4 r];have hb:=rv.Oe)),`(tactic|(intro m y σ H4 hy hv;obtain⟨v2,rfl,s4,gD⟩:=(Zi _).mp hv;obtain⟨q,hq,rfl⟩:=Wr;obtain⟨ss,jt,eS⟩:=gN dv hq)),`(tactic|(obtain⟨pe,da,rfl⟩:=UD;obtain⟨ra,iF,rfl⟩:=Wr;obtain⟨rl,fG,eS⟩:=gN gR iF;rw[cx,da]at fG;cases fG)),`(tactic|(intro n hn;have s1:ZQ ZcJ:=a0 hn;refine⟨d,_,s1.at hd,trivial,λod=>?_⟩;have gU:d≠n:=cg hd hn)),`(tactic|(obtain⟨r,i,j,P,ab,c,z,rfl,hR,k⟩:=h;refine⟨_,(ak (ay (D0 nZ qX aR ZE (Xd (aa ZcI ai))))),?_⟩)),`(tactic|(simp only[zb,hx];by_cases hc:(k₀==NameKind.free&&sc.kind==.function &&sc.names.lookup n==some .cell)=true)),`(tactic|(obtain⟨its,rv,⟨⟨cls,dd,data,sl⟩,n,ho,hc,gU,hd⟩,hlen⟩:=I.list hs;simp only at hc hd;subst hc hd)),`(tactic|(intro value slice pins s σ H x y v u Q I rx ry h hs;obtain⟨p,xs,i,z,rfl,rfl,hq,he,q⟩:=h;cases rx)),`(tactic|(obtain⟨c,e1,e2⟩:=Zdk;refine⟨c,e1,?_⟩;rw[ax λq=>nx _ (by rw[←q];exact e2)];exact e2)),`(tactic|(rw[bu hl,fm]at k;refine aI ⟨_,Xg,_,gk 1 Zb,_,rfl,(qC ok Zb).1,(qC ok Zb).2,λH1 s1=>Yy⟩)),`(tactic|(obtain⟨σ3,H3,I3,n3⟩:=q3;obtain⟨m',hm,w3⟩:=hN σ3 H3 n3;exact⟨m',hm,σ3,H3,I3,w3⟩)),`(tactic|(intro σ H' hv;obtain⟨v3,v4,rfl,s2,hO⟩:=(Zi _).mp hv;refine⟨Zfw,?_⟩)),`(tactic|(obtain⟨p1,e1⟩:=s1.b9 b ps e;obtain⟨p2,e2⟩:=sL.b9 b p1 e1;exact s2.b9 b p2 e2)),`(tactic|(intro σ H4 hv;obtain⟨v2,rfl,s4,gD⟩:=(Zi _).mp hv;rw[aq,du dv,eg]at gD;exfalso)),`(tactic|(obtain⟨o1,q1,c1,_⟩:=hit;obtain⟨o2,q2,c2,_⟩:=p.isList;rw[z,q1]at q2;cases q2)),`(tactic|(obtain⟨o,es,ep,ho,r⟩:=hm;exact⟨o,es,ep,k _ o (λz=>(hf _ z).2.1 rfl) ho,r⟩)),`(tactic|(refine⟨l5,rfl,_,xK,_,jz,by simp only[aq,bb,jK];omega,λr gm=>?_⟩;have ji:=ZaA)),`(tactic|(obtain⟨ps,m8,kL⟩:=aO.mp h2;obtain⟨pt,xN,oF⟩:=aO.mp h3;by_cases es:s=step)),`(tactic|(rw[Co (qp hj)]at e2;obtain⟨u',r',q⟩:=hl j y v' e1 e2 e3;refine⟨u',r',?_⟩)),`(tactic|(obtain⟨T,x,e,hT,e2,y⟩:=y;subst e e2;exact hs i x T σ H (y xs (Zbm p)) p hT)),`(tactic|(obtain⟨i,j,rfl,q⟩:=h;obtain⟨u,w',rfl,⟨t,rfl⟩,⟨t',rfl⟩⟩:=vals2 r)),`(tactic|(subst e;obtain⟨oi,e,c,dd⟩:=st;exact⟨oi,e,λv z=>by rw[dd]at z;cases z⟩)),`(tactic|(simp only[sliceBounds,HT.iW,aeO,show(1 :Int)>0 by decide,iD];by_cases h:i<0)),`(tactic|(rw[eb,e];refine aF ((Zi _).mpr ⟨_,rfl,gz,λt ht=>?_⟩);rw[dA jt]at ht)),`(tactic|(simp! [b7];intro l hl;have s1:ZQ (XZ Ye):=a0 hl;have fj:=ZbR)),`(tactic|(obtain⟨H2,fL⟩:∃H2,H2=upd ZiO p Zef:=Zs;rw[←fL]at s2⊢))]
def yc:ZY:=#[`(tactic|(have:X.env.scope.names.lookup x=some .free :=hk;rw[k]at this;cases this)),`(tactic|(obtain⟨its,rv,p1,_⟩:=I1.list iH;obtain⟨ll,tp,p2,_⟩:=I1.list m6)),`(tactic|(refine yH asn ?_;rw[PK aeL _];show ZaF (pyNext (.ref I)>>= _) _ _ s)),`(tactic|(obtain⟨a,kvs,rfl,ha,q⟩:=h;obtain⟨u,rfl,rx⟩:=oZ r;cases rx)),`(tactic|(refine⟨d,e1,?_⟩;rw[g3 d (nP _ _ e2 Zcy) (nC _ _ e2)];exact e2)),`(tactic|(intro X hP hw hK hcalm i pins s σ H E I hf st hg;subst hP hw hK)),`(tactic|(obtain⟨_,_,_,_,o,_,_,e,ex,_⟩:=I.aC p _ hk;exact⟨o,e,ex⟩)),`(tactic|(obtain⟨x,ex⟩:=fM hi;obtain⟨y,ey⟩:=fM (l:=ys) (i:=i) Zb)),`(tactic|(obtain⟨⟨a,rfl⟩,q1⟩:=q1;obtain⟨t,rfl⟩:=_root_.id r1)),`(tactic|(have Nk:a=text "after"∨a=text "unlike"∨a=text "alike":=g1)),`(tactic|(obtain⟨zs,cE,_⟩:=(hW.same s3).ex;simp! [cQ cE];refine ZjQ)),`(tactic|(obtain⟨p0,h0,_⟩:=id h;obtain⟨ps,h1,h2,h3⟩:=s.tab P h)),`(tactic|(obtain⟨v7,v8,v9,ys,rfl,s3,pT,qf,i6,jr,EO⟩:=(Zi _).mp hv)),`(tactic|(have hT:s.TypeIs Zdd "zip":=⟨_,hz,rfl⟩;unfold pyNext)),`(tactic|(have hlen:(personNames P).length =P.persons.length:=X0)),`(tactic|(obtain⟨l,v3,v4,v5,v6,v7,rfl,s2,A3,rH⟩:=(Zi _).mp hv)),`(tactic|(obtain⟨q,cn,v4,v5,v6,rfl,s6,hq,Ef,tl⟩:=(Zi _).mp hv)),`(tactic|(obtain⟨_,vs,h1,h2,⟨e,rfl⟩|⟨e,rfl⟩⟩:=BL ar q)),`(tactic|(rw[bu hl,fm]at k;exact aI ⟨_,Xg,names 1 H Q ZW k⟩)),`(tactic|(subst hj;rw[hi]at e1;cases e1;rw[Hb hiσ]at e2;cases e2)),`(tactic|(obtain⟨R',v6,rfl,s4,uz,cF,bc,jv,dB⟩:=(Zi _).mp hv)),`(tactic|(obtain⟨ob,_,_,h1,h2,_⟩:=dd;exact⟨ob,h1,h2.2.1⟩)),`(tactic|(obtain⟨x',js,rfl⟩:=get_map ig;rw[hx]at js;cases js)),`(tactic|(obtain⟨P,v2,v3,v4,rfl,sc,uH,wf,iE⟩:=(Zi _).mp hv)),`(tactic|(rw[ax (λz=>by rw[z,h]at q;cases q;exact mu)];exact q)),`(tactic|(have hlen:(stepNames P).length =P.steps.length:=X0)),`(tactic|(obtain⟨l,b,xs,zs,rfl,rfl,hH,hB,hz,q⟩:=h;cases rx)),`(tactic|(refine⟨b,rfl,?_⟩;have gz:=(s4.trans s5).trans s6)),`(tactic|(have Bi:fO H4 d XH:=((hO.same s2).same s3).same s4)),`(tactic|(rw[af h2];rw[af h2]at ek;exact(err 2 _ Zj ek).symm)),`(tactic|(obtain⟨v4,v5,rfl,s5,hu5,hw5,jz⟩:=(Zi _).mp hv)),`(tactic|(rw[←fw];rw[←fw]at q1 c1;have uB:=(dQ q1.ins).1)),`(tactic|(obtain⟨v2,v4,rfl,s7,h72,Fu,uO⟩:=(Zi _).mp hv)),`(tactic|(obtain⟨z,hz⟩:=fM hi;have js:=y xs (s1.seq hx))),`(tactic|(obtain⟨l4,v5,v6,rfl,s4,ox,ik⟩:=(Zi _).mp hv)),`(tactic|(obtain⟨p,hp⟩:=e.b9 l ps q;rw[hp]at h;cases h)),`(tactic|(obtain⟨v2,v3,v4,rfl,s6,fY⟩:=(Bf _ _ _).mp hv)),`(tactic|(obtain⟨v3,v4,v5,rfl,s3,jZ,b0⟩:=(Zi _).mp hv)),`(tactic|(have e2:=KX a o hk;rw[e]at e2;obtain rfl:=bY e2)),`(tactic|(have m1:=(sg _ _).mp h1;have m2:=(sg _ _).mp h2)),`(tactic|(obtain⟨y',jX,rfl⟩:=Zby;rw[hy]at jX;cases jX)),`(tactic|(obtain⟨⟨old,he⟩,⟨o,ho,hc,hd⟩,_⟩:=st)),`(tactic|(by_cases h:Reach P.after (Yj ws).2 (Yj ws).1)),`(tactic|(have e1:(Xy step).contains t=true:=bx.mpr h1)),`(tactic|(have ex:x=((x.toNat:Nat):Int):=(mC hf.1).symm)),`(tactic|(have h5:(mask t).length =t.length:=X0;omega)),`(tactic|(obtain⟨v2,v3,v4,rfl,s2,bH⟩:=(Zi _).mp hv)),`(tactic|(obtain⟨v2,v3,v4,rfl,s2,hW⟩:=(Zi _).mp hv)),`(tactic|(obtain⟨v2,v3,v4,rfl,s3,i8⟩:=(Yl _).mp hv)),`(tactic|(obtain⟨v2,v3,v4,rfl,s4,ik⟩:=(Yl _).mp hv)),`(tactic|(obtain⟨v4,v5,v6,rfl,s3,i8⟩:=(Yl _).mp hv)),`(tactic|(obtain⟨v5,v6,rfl,s4,lC⟩:=(Bg _ _ _).mp hv)),`(tactic|(obtain⟨o,ho,hc,hd⟩:=id hit;unfold pyNext)),`(tactic|(obtain⟨p,a,ix,P,ss,rfl,hP,wf,ha,hl,k⟩:=h)),`(tactic|(obtain⟨p,xs,rfl,hq,fx,fs,q⟩:=h;cases ry)),`(tactic|(obtain⟨r,_,rfl⟩:=aO.mp hw;exact TK wf r))]
def zc(c:Char):Nat:=if c.val>=97 then c.val.toNat-97 else if c.val>=65 then c.val.toNat-39 else c.val.toNat+4
def zx(n:Name):MacroM Term:=match n with
 |.str .anonymous s=>match s.toList with
  |[a,b]=>(match a with
   |'Z'=>zZ
   |'Y'=>zY
   |'X'=>zX
   |'W'=>zW
   |'V'=>zV
   |'U'=>zU
   |_=>#[]).getD (zc b) Macro.throwUnsupported
  |['Z',a,b]=>(match a with
   |'a'=>zZa
   |'b'=>zZb
   |'c'=>zZc
   |'d'=>zZd
   |'e'=>zZe
   |'f'=>zZf
   |'g'=>zZg
   |'h'=>zZh
   |'i'=>zZi
   |'j'=>zZj
   |'k'=>zZk
   |'l'=>zZl
   |'m'=>zZm
   |'n'=>zZn
   |'o'=>zZo
   |'p'=>zZp
   |'q'=>zZq
   |'r'=>zZr
   |'s'=>zZs
   |'t'=>zZt
   |_=>#[]).getD (zc b) Macro.throwUnsupported
  |_=>Macro.throwUnsupported
 |_=>Macro.throwUnsupported
def zy(n:Name):MacroM (TSyntax `tactic):=match n with
 |.str .anonymous s=>match s.toList with
  |[b]=>y.getD (zc b) Macro.throwUnsupported
  |[a,b]=>(match a with
   |'a'=>ya
   |'b'=>yb
   |'c'=>yc
   |_=>#[]).getD (zc b) Macro.throwUnsupported
  |_=>Macro.throwUnsupported
 |_=>Macro.throwUnsupported
end Zt
local macro_rules|`($x:ident)=>Zt.zx x.getId
local macro_rules|`($x:ident $a*)=>do let t←Zt.zx x.getId;if t.raw.isOfKind ``Lean.Parser.Term.app then return t.raw.setArg 1 (Lean.mkNullNode (t.raw[1].getArgs++a)) else return Lean.Syntax.node .none ``Lean.Parser.Term.app #[t,Lean.mkNullNode a]
local macro_rules|`(tactic|ext $x:ident)=>Zt.zy x.getId
section
open PySem
abbrev ae:=@if_neg
abbrev af:=@if_pos
abbrev aj:=@PySem.wpAny_bind
abbrev aq:=@List.length_map
abbrev aJ:=@List.mem_cons
abbrev aL:=@PySem.wpAny_pure
abbrev aO:=@List.mem_map
abbrev aQ:=@Bool.and_eq_true
abbrev aU:=@Nat.le_refl
abbrev aX:=@decide_eq_false
abbrev aY:=@List.mem_cons_self
abbrev a9:=@List.mem_cons_of_mem
abbrev bb:=@List.length_cons
abbrev bo:=@List.mem_singleton
abbrev bu:=@decide_eq_true
abbrev bx:=@List.contains_iff_mem
abbrev bz:=@List.map_map
abbrev bD:=@List.mem_filter
abbrev bI:=@List.mem_of_getElem?
abbrev bS:=@List.length_append
abbrev bT:=@PySem.Heap.lt_size
abbrev bX:=@decide_eq_true_eq
abbrev bY:=@Option.some.inj
abbrev b7:=@Nat.zero_le
abbrev b8:=@List.mem_append
abbrev cb:=@congrArg
abbrev cq:=@Nat.le_trans
abbrev cw:=@List.map_cons
abbrev cx:=@List.getElem?_map
abbrev cA:=@List.map_append
abbrev cV:=@PySem.Heap.get?_push_of_some
abbrev df:=@List.nodup_cons
abbrev dh:=@List.all_eq_true
abbrev di:=@Iff.rfl
abbrev dj:=@PySem.Heap.get?_push_size
abbrev dA:=@PyProof.Rows.take_snoc
abbrev dE:=@PySem.F.plainAttrs_list
abbrev dF:=@PySem.PassesOwn.never
abbrev dR:=@List.size_toArray
abbrev dS:=@List.mem_range
abbrev eg:=@List.take_length
abbrev eh:=@Bool.false_ne_true
abbrev eB:=@Nat.ne_of_lt
abbrev eC:=@List.append_assoc
abbrev eM:=@List.length_range
abbrev eY:=@List.length_take
abbrev eZ:=@List.length_filter_le
abbrev fc:=@List.append_nil
abbrev fm:=@Bool.true_and
abbrev fP:=@List.getElem?_eq_getElem
abbrev gb:=@PySem.Heap.size_push
abbrev gv:=@List.map_congr_left
abbrev gK:=@Bool.false_and
abbrev gL:=@PySem.wpAny_mono
abbrev hX:=@Nat.lt_of_lt_of_le
abbrev hZ:=@List.all_cons
abbrev h_:=@Bool.or_eq_true
abbrev ip:=@beq_eq_false_iff_ne
abbrev iq:=@PySem.F.type_list_append
abbrev ir:=@PySem.F.slot_list_append
abbrev iD:=@if_true
abbrev iP:=@Nat.le_of_lt
abbrev iQ:=@List.getElem?_eq_some_iff
abbrev iR:=@List.flatMap_cons
abbrev iS:=@Bool.eq_iff_iff
abbrev i5:=@if_false
abbrev je:=@List.mem_append_right
abbrev jf:=@List.filter_cons
abbrev jK:=@List.length_nil
abbrev jL:=@List.getD_eq_getElem?_getD
abbrev ke:=@List.any_cons
abbrev kg:=@Bool.false_eq_true
abbrev kP:=@PySem.mem_of_lookup
abbrev lV:=@or_false
abbrev lX:=@of_decide_eq_true
abbrev mv:=@List.not_mem_nil
abbrev mw:=@List.nodup_append
abbrev mx:=@List.nil_append
abbrev my:=@List.mem_append_left
abbrev mz:=@List.length_drop
abbrev mB:=@List.all_map
abbrev mC:=@Int.toNat_of_nonneg
abbrev mD:=@Int.toNat_natCast
abbrev mE:=@Int.ofNat.inj
abbrev mI:=@PySem.wpAny_call_entry
abbrev nA:=@Nat.lt_irrefl
abbrev nB:=@List.flatten_cons
abbrev nD:=@List.filter_congr
abbrev nH:=@PySem.wpAny_holding
abbrev nI:=@PySem.wpAny_field
abbrev oK:=@beq_iff_eq
abbrev oN:=@Sum.inl.inj
abbrev oO:=@Nat.ne_of_gt
abbrev oQ:=@List.flatMap_append
abbrev oR:=@List.find?_cons
abbrev oS:=@List.cons_append
abbrev oV:=@Array.length_toList
abbrev oZ:=@PyProof.Rows.vals1
abbrev qg:=@PySem.call_meets
abbrev qi:=@PySem.F.type_list_extend
abbrev qj:=@PySem.F.slot_list_extend
abbrev ql:=@PySem.Paired.snoc
abbrev qp:=@Ne.symm
abbrev qt:=@List.filter_filter
abbrev qy:=@Bool.not_true
abbrev qA:=@PySem.wpAny_truthy_bool
abbrev qB:=@PySem.wpAny_pyIter_list
abbrev rZ:=@decide_eq_decide
abbrev r9:=@beq_self_eq_true
abbrev sq:=@List.nodup_nil
abbrev su:=@List.mem_flatten
abbrev sv:=@List.length_pos_iff
abbrev sC:=@PySem.wpAny_seqItems
abbrev sD:=@PySem.wpAny_Call_Name_kw
abbrev sG:=@PySem.typeIs_str
abbrev uZ:=@PySem.codeAny_mono
abbrev u7:=@bne_iff_ne
abbrev vf:=@PySem.W.mg_of
abbrev vg:=@PySem.F.called_set
abbrev vm:=@PySem.Obj.data_mapFields
abbrev vn:=@List.take_of_length_le
abbrev vo:=@List.mem_flatMap
abbrev vp:=@List.map_nil
abbrev vq:=@List.foldl_cons
abbrev vt:=@List.filter_map
abbrev vv:=@List.filter_append
abbrev vw:=@List.any_map
abbrev vz:=@PySem.Heap.SameBut.update
abbrev vE:=@Bool.not_false
abbrev vF:=@Bool.not_eq_true'
abbrev vG:=@Bool.and_true
abbrev vI:=@PySem.wpAny_passesOwn
abbrev vJ:=@PySem.wpAny_newObj_type
abbrev vK:=@PySem.wpAny_callSpecial?_slot
abbrev yH:=@PySem.codeAny_builtin
abbrev yK:=@and_true
abbrev yR:=@PySem.Paired.length
abbrev y9:=@Nat.le_add_right
abbrev y_:=@List.mem_iff_getElem
abbrev za:=@List.map_take
abbrev zb:=@List.lookup_cons
abbrev zc:=@List.getElem?_range
abbrev zd:=@List.drop_drop
abbrev zf:=@PySem.Heap.get?_update_self
abbrev zi:=@Bool.and_eq_false_iff
abbrev zl:=@PySem.wpAny_attempt
abbrev zu:=@true_implies
abbrev zL:=@PySem.sizeLine_eq
abbrev Bt:=@false_implies
abbrev BP:=@PyProof.Rows.SameBut.refl
abbrev Cb:=@Nat.zero_add
abbrev Cc:=@Nat.testBit_and
abbrev Cd:=@Nat.lt_succ_self
abbrev Ce:=@Nat.lt_succ_of_lt
abbrev Cf:=@Nat.eq_of_testBit_eq
abbrev Cg:=@List.range_succ
abbrev Ci:=@List.pairwise_cons
abbrev Cj:=@List.mem_of_mem_take
abbrev Ck:=@List.map_id''
abbrev Cm:=@List.map_drop
abbrev Cn:=@List.length_eq_zero_iff
abbrev Co:=@List.getElem?_set_ne
abbrev Cp:=@List.getElem?_eq_none
abbrev Cq:=@List.countP_append
abbrev Cr:=@PySem.F.slot_str_split
abbrev Cs:=@PySem.F.slot_dict_keyiterator_next
abbrev Cv:=@PySem.wpAny_standAt
abbrev Cw:=@PySem.wpAny_setField_rec
abbrev Cy:=@PySem.wpAny_setField
abbrev Cz:=@PySem.wpAny_of_eq
abbrev CA:=@PySem.wpAny_call
abbrev CV:=@PyProof.Rows.split_len
abbrev FV:=@PyProof.Rows.cnt_none
abbrev F6:=@and_congr
abbrev Ga:=@PySem.F.slot_list_index
abbrev Gb:=@PyProof.Rows.callWith_type1
abbrev G2:=@Nat.zero_testBit
abbrev G3:=@Nat.testBit_or
abbrev G4:=@Nat.add_zero
abbrev G5:=@Nat.add_comm
abbrev G7:=@List.replicate_succ
abbrev G8:=@List.mem_of_find?_eq_some
abbrev G9:=@List.mem_filterMap
abbrev G_:=@List.map_id
abbrev Ha:=@List.isEmpty_iff
abbrev Hb:=@List.getElem?_set_self
abbrev Hc:=@List.findIdx_lt_length_of_exists
abbrev Hd:=@List.find?_eq_none
abbrev He:=@List.filterMap_cons
abbrev Hg:=@List.drop_length
abbrev Hh:=@List.contains_cons
abbrev Hm:=@Classical.byContradiction
abbrev Hn:=@PySem.Calls.spliced_cons
abbrev Hq:=@Bool.false_or
abbrev Hr:=@Bool.and_false
abbrev Hv:=@PySem.wpAny_typeNameOf_keyiter
abbrev Hw:=@PySem.wpAny_typeNameOfWhole_keyiter
abbrev Hx:=@PySem.wpAny_setState_of
abbrev Hy:=@PySem.wpAny_rule
abbrev Hz:=@PySem.wpAny_pyIter_zip
abbrev HA:=@PySem.wpAny_pyIter_slot
abbrev HB:=@PySem.wpAny_pyIter_enum
abbrev HC:=@PySem.wpAny_onRaise
abbrev HD:=@PySem.wpAny_loadPart'
abbrev HE:=@PySem.wpAny_letGo
abbrev HF:=@PySem.wpAny_isInstance
abbrev HG:=@PySem.wpAny_fieldsOf
abbrev HH:=@PySem.wpAny_execs_nil
abbrev HI:=@PySem.wpAny_Name
abbrev HW:=@PySem.tupleKind_room_in1
abbrev IJ:=@PySem.signature?_of
abbrev Kb:=@PySem.putSet_of
abbrev Kc:=@PySem.pushCells_keeps
abbrev Kx:=@ne_true_of_eq_false
abbrev KW:=@PySem.W.mem_lookup
abbrev Lf:=@PySem.intKind_is
abbrev Oz:=@PySem.F.type_list_index
abbrev OA:=@Prod.mk.injEq
abbrev OT:=@Nat.testBit_xor
abbrev OU:=@Nat.not_lt_zero
abbrev OV:=@Nat.min_eq_left
abbrev OW:=@Nat.le_of_succ_le
abbrev OX:=@Nat.le_of_eq
abbrev O4:=@List.range_succ_eq_map
abbrev O5:=@List.pairwise_lt_range
abbrev O6:=@List.map_flatMap
abbrev O7:=@List.map_eq_nil_iff
abbrev O8:=@List.length_singleton
abbrev O9:=@List.length_filterMap_le
abbrev O_:=@List.forIn_nil
abbrev Pa:=@List.foldl_append
abbrev Pb:=@List.flatMap_nil
abbrev Pc:=@List.filter_eq_self
abbrev Pd:=@List.countP_singleton
abbrev Pe:=@List.countP_cons
abbrev Pf:=@List.Perm.refl
abbrev Pn:=@Int.natCast_nonneg
abbrev Pp:=@PySem.F.slot_zip_next
abbrev Pq:=@PySem.F.entry_str_split
abbrev Pr:=@PySem.Calls.spliced_nil
abbrev Py:=@PySem.Calls.callWith_builtin
abbrev PD:=@Bool.or_false
abbrev PF:=@Bool.or_eq_false_iff
abbrev PJ:=@Array.getElem?_eq_none
abbrev PK:=@PySem.Around.under_plainId
abbrev PU:=@PySem.wpAny_specialOf
abbrev PV:=@PySem.wpAny_setEntries_of
abbrev PX:=@PySem.wpAny_nextOf_list_item
abbrev PY:=@PySem.wpAny_loadName_local
abbrev PZ:=@PySem.wpAny_listPart
abbrev P0:=@PySem.wpAny_dictEpoch
abbrev P1:=@PySem.wpAny_dictEntries
abbrev P2:=@PySem.wpAny_askSetting
abbrev ab2:=@PySem.isSubtype_type
abbrev ab3:=@PySem.isSubtype_stop
abbrev adO:=@decide_eq_false_iff_not
abbrev ad4:=@PySem.codeAny_of_tree
abbrev ad5:=@PySem.codeAny_call_builtin
abbrev aee:=@bne_self_eq_false
abbrev aeH:=@PySem.wpAny_ite_split
abbrev aeI:=@PySem.W.callWith_K
abbrev aeJ:=@PySem.W.KFB.if_not
abbrev aeK:=@PySem.F.slot_dict_get
abbrev aeL:=@PyProof.Rows.F.plain_set_update_loop
abbrev aeN:=@Option.some.injEq
abbrev aeO:=@Option.getD_none
abbrev aeQ:=@PySem.Obj.isFreed_of_fields
abbrev aeR:=@PySem.Obj.cls_mapFields
abbrev aeS:=@Nat.xor_assoc
abbrev aeT:=@Nat.testBit_two_pow
abbrev aeU:=@Nat.shiftLeft_eq
abbrev aeV:=@Nat.mul_le_mul
abbrev afo:=@List.take_zero
abbrev afp:=@List.take_succ_cons
abbrev afq:=@List.sum_cons
abbrev afr:=@List.perm_append_comm
abbrev afs:=@List.of_mem_zip
abbrev aft:=@List.nodup_range
abbrev afu:=@List.length_set
abbrev afv:=@List.isEmpty_nil
abbrev afw:=@List.getElem_mem
abbrev afx:=@List.getElem_inj
abbrev afy:=@List.getElem?_take_of_lt
abbrev afz:=@List.getElem?_drop
abbrev afA:=@List.getElem?_cons_zero
abbrev afB:=@List.getElem?_cons_succ
abbrev afC:=@List.getElem?_append_left
abbrev afD:=@List.forIn_cons
abbrev afE:=@List.flatten_append
abbrev afF:=@List.findSome?_eq_none_iff
abbrev afG:=@List.find?_some
abbrev afH:=@List.exists_mem_of_ne_nil
abbrev afI:=@List.drop_zero
abbrev afJ:=@List.drop_succ_cons
abbrev afK:=@List.drop_eq_getElem_cons
abbrev afL:=@List.cons_ne_nil
abbrev afM:=@List.cons.inj
abbrev afN:=@List.any_eq_true
abbrev afO:=@List.any_eq_false
abbrev afP:=@List.Sublist.refl
abbrev afQ:=@List.Pairwise.filter
abbrev afS:=@PySem.Heap.IsList.push
abbrev afT:=@PySem.F.called_enumerate
abbrev afU:=@PySem.F.args_str_split_2
abbrev afW:=@PySem.Code.quiet_builtin
abbrev afY:=@PySem.Calls.evalArgs_plain
abbrev afZ:=@PySem.Calls.Name_function_global
abbrev af0:=@Bool.eq_false_iff
abbrev af2:=@Array.toList_inj
abbrev af3:=@Array.toList_append
abbrev af4:=@Array.getElem?_toList
abbrev agc:=@PySem.wpAny_letOwnedTupleGo_zip
abbrev agd:=@PySem.wpAny_letOwnedTupleGo_enum
abbrev asf:=@PySem.W.length_le_weightAllW
abbrev ash:=@PySem.StrLaws.found_one
abbrev asi:=@PySem.F.slot_list_count
abbrev asj:=@PySem.F.slot_dict_getitem
abbrev asl:=@PySem.F.args_dict_get_3
abbrev asm:=@PyProof.Rows.callWith_builtin1
abbrev asn:=@PyProof.Rows.F.entry_set_update_loop
abbrev atn:=@List.length_erase_of_mem
abbrev ato:=@List.findSome?_isSome_iff
abbrev atp:=@List.findIdx?_eq_none_iff
abbrev att:=@PySem.F.slot_dict_keyiterator_iter
abbrev atu:=@PySem.F.entry_dict_keyiterator_next
abbrev atv:=@PySem.F.args_dict_keyiterator_next_1
abbrev atw:=@PySem.Calls.loadGlobal_builtin
abbrev atz:=@Array.getElem?_eq_some_iff
abbrev atA:=@Array.getElem?_eq_getElem
end
set_option maxRecDepth 100000
namespace L2
open PySem PySem.Spec PyProof.Rows
abbrev Key:=Sum Int Str
def pJ:Key->Value->Bool
 | .inl k,v=>Value.isInt k v
 | .inr x,v=>Value.isStrOf x v
def alO(w:World):Key->Int
 | .inl k=>hashInt k
 | .inr x=>hashStr w x
theorem mW:∀{k:Key} {v:Value},pJ k v=true->(∃i t,k=Sum.inl i/\v=Value.int i t)∨(∃x t,k=Sum.inr x/\v=Value.str x t)
 | .inl i,v,h=>by obtain⟨t,e⟩:=Value.isInt_shape (k:=i) (v:=v) h;exact .inl ⟨i,t,rfl,e⟩
 | .inr x,v,h=>by obtain⟨t,e⟩:=Value.isStrOf_shape (x:=x) (v:=v) h;exact .inr ⟨x,t,rfl,e⟩
theorem alN(i:Int)(t:Tok):pJ (.inl i) Zce=true:=by simp[pJ,Value.isInt]
theorem alM(x:Str)(t:Tok):pJ (.inr x) (U1 t)=true:=by simp[pJ,Value.isStrOf]
theorem alL(a b:Int):decide ((Sum.inl a:Key)=Sum.inl b)=(a==b):=by
 by_cases e:a=b
 ·subst e;simp
 ·have h:¬(Sum.inl a:Key)=Sum.inl b:=λq=>e (oN q);rw[aX h];exact(ip.mpr e).symm
theorem alI(a b:Str):decide ((Sum.inr a:Key)=Sum.inr b)=decide (a=b):=by
 by_cases e:a=b
 ·subst e;simp
 ·have h:¬(Sum.inr a:Key)=Sum.inr b:=λq=>e (Sum.inr.inj q);rw[aX h,aX e]
theorem alK(a:Int)(b:Str):decide ((Sum.inl a:Key)=Sum.inr b)=false:=aX (λq=>nomatch q)
theorem alJ(a:Str)(b:Int):decide ((Sum.inr a:Key)=Sum.inl b)=false:=aX (λq=>nomatch q)
def fV(prog:Program)(w:World):PySem.KeyKind prog w Key where
 is:=pJ
 hash:=alO w
 inj:=λv a b ha hb=>by
  rcases mW ha with⟨i,t,rfl,rfl⟩|⟨x,t,rfl,rfl⟩
  ·rcases mW hb with⟨j,u,rfl,e⟩|⟨y,u,rfl,e⟩
   ·injection e with e1 _;rw[e1]
   ·exact nomatch e
  ·rcases mW hb with⟨j,u,rfl,e⟩|⟨y,u,rfl,e⟩
   ·exact nomatch e
   ·injection e with e1 _;rw[e1]
 byValue:=λk v h=>by rcases mW h with⟨i,t,rfl,rfl⟩|⟨x,t,rfl,rfl⟩<;>rfl
 pyHash:=λhv h=>by
  rcases mW hv with⟨i,t,rfl,rfl⟩|⟨x,t,rfl,rfl⟩
  ·exact wpAny_pyHash_int h
  ·exact wpAny_pyHash_str h
 eqBool:=λhu hv h=>by
  rcases mW hu with⟨i,t,rfl,rfl⟩|⟨x,t,rfl,rfl⟩
  ·rcases mW hv with⟨j,u,rfl,rfl⟩|⟨y,u,rfl,rfl⟩
   ·rw[alL]at h;exact wpAny_eqBool_int h
   ·rw[alK]at h;exact SeqAt.EqAt.int_str i t y u _ _ _ _ h
  ·rcases mW hv with⟨j,u,rfl,rfl⟩|⟨y,u,rfl,rfl⟩
   ·rw[alJ]at h;exact SeqAt.EqAt.str_int x t j u _ _ _ _ h
   ·rw[alI]at h;exact wpAny_eqBool_str h
 «strs»:=λk x t v h=>by
  rcases mW h with⟨i,u,rfl,e⟩|⟨y,u,rfl,e⟩
  ·exact nomatch e
  ·injection e with e1 _
   subst e1;cases v<;>rfl
theorem KP(prog:Program)(w:World)(i:Int)(t:Tok):(fV prog w).is (.inl i) Zce=true:=alN i t
theorem ak4(prog:Program)(w:World)(x:Str)(t:Tok):(fV prog w).is (.inr x) (U1 t)=true:=alM x t
end L2
namespace L2
open PySem PySem.Spec PyProof.Rows
inductive V where
 |ba|bl (b:Bool)|int (i:Int)|str (x:Str)|gr (b:Array UInt8)|FJ (b:UInt64)|ref (a:Addr)|ty (n:String)
 deriving DecidableEq
def RelV:V->Value->Prop
 | .ba,u=>u=Value.none
 | .bl b,u=>u=Value.bool b
 | .int i,u=>∃t,u=Value.int i t
 | .str x,u=>∃t,u=Value.str x t
 | .gr b,u=>∃t,u=Value.bytes b t
 | .FJ b,u=>∃t,u=Value.float b t
 | .ref a,u=>u=Value.ref a
 | .ty n,u=>u=Value.type n
abbrev Vals:Ze->Zp->Prop:=Paired RelV
theorem Vals.length{xs:Ze}{us:Zp}(r:WD):xs.length=us.length:=yR r
theorem Vals.get:∀{xs:Ze} {us:Zp} {i:Nat} {x:V},WD->xs[i]? =some x->∃u,us[i]? =some u/\RelV x u
 |_,_,_,_,.nil,e=>by simp at e
 |_,_,0,_,.cons r _,e=>by simp at e;subst e;exact⟨_,rfl,r⟩
 |_,_,i+1,x,.cons _ t,e=>by obtain⟨u,h1,h2⟩:=Vals.get (i:=i) (x:=x) t ZlX;exact⟨u,ZlY,h2⟩
theorem Vals.set{x:V}{u:Value}(r:RelV x u):∀{xs:Ze} {us:Zp} (i:Nat),WD->Vals (xs.set i x) (us.set i u)
 |_,_,_,.nil =>.nil
 |_,_,0,.cons _ t=>.cons r t
 |_,_,i+1,.cons q t=>.cons q (Vals.set r i t)
theorem Vals.append:∀{xs ys:Ze} {us ws:Zp},WD->Zcd ws->Vals (xs++ys) (us++ws)
 |_,_,_,_,.nil,s=>s
 |_,_,_,_,.cons r t,s=>.cons r (Vals.append t s)
theorem Vals.take:∀{xs:Ze} {us:Zp} (n:Nat),WD->Vals (xs.take n) (us.take n)
 |_,_,0,_=>.nil
 |_,_,_+1,.nil =>.nil
 |_,_,n+1,.cons r t=>.cons r (Vals.take n t)
theorem Vals.drop:∀{xs:Ze} {us:Zp} (n:Nat),WD->Vals (xs.drop n) (us.drop n)
 |_,_,0,r=>r
 |_,_,_+1,.nil =>.nil
 |_,_,n+1,.cons _ t=>Vals.drop n t
def jJ:ZM->Zad->Prop
 |some v,some u=>XQ
 |none,none=>True
 |_,_=>False
def KV{κ:Type}:XI->Zap->Prop:=Paired λ(p:κ×V) (q:κ×Value)=>p.1=q.1/\RelV p.2 q.2
def kV:Key->V
 | .inl i=>Xs
 | .inr x=>U1
inductive HO where
 |lst (xs:List V)
 |tup (xs:List V)
 |dK (kvs:List (Key×V))|dT (kvs:List (List Key×V))
 |set (S:Int->Bool) (n:Nat)
 |ins (C dx:Addr) (fs:List (Str×V))
 |own (x:Addr)
 |xd (fs:List (Str×V))
 |met (f x:Addr)
 |JZ (lo hi:Int)
 |bL (o:Obj) (u:HO)
 |b9 (ps:Array Value)
 |ext (φ:Heap->Prop)
abbrev Hp:=Addr->Option HO
def upd(H:Hp)(a:Addr)(o:HO):Hp:=λb=>if b=a then some o else H b
theorem au{H:Hp}{a:Addr}{o:HO}:ZaO a=some o:=by unfold upd;rw[af rfl]
theorem ax{H:Hp}{a b:Addr}{o:HO}(h:b≠a):ZaO b=H b:=by unfold upd;rw[ae h]
theorem jP{H:Hp}{a:Addr}{o u:HO}:upd ZaO a u=Zw a u:=by funext b;unfold upd;split<;>rfl
theorem ie{H:Hp}{a b:Addr}{o u:HO}(h:H a=some o)(h':H b=some u)(d:o≠u):a≠b:=by intro e;subst e;rw[h]at h';exact d (bY h')
theorem cg{H:Hp}{a b:Addr}{o:HO}(h:H a=some o)(h':H b=none):a≠b:=by intro e;subst e;rw[h]at h';cases h'
section
variable (P:Program)(w:World)
def dJ(H:Hp)(h:Heap)(a:Addr):HO->Prop
 | .lst xs=>xs.length<=sizeLine/\∃(its:Zp) (n:Nat),U0/\h.get? a=some {cls:=Yk,data:=VE n}
 | .tup xs=>xs.length<=sizeLine/\∃its:List Value,U0/\IsTup h a its.toArray
 | .dK kvs=>kvs.length<=sizeLine/\(a==sysModules)=false/\∃vs,XM/\Ziy vs
 | .dT kvs=>kvs.length<=sizeLine/\(a==sysModules)=false/\∃xs:List Zta,
   Paired (λ(p:List Key×V) (q:List Key×Addr×Value)=>p.1=q.1/\H q.2.1=some (.tup (p.1.map kV))/\RelV p.2 q.2.2) kvs xs/\
   ∃o es ep,h.get? a=some o/\o.ExactDict/\o.data=ZaW ep/\es.toList=xs.map (entryOfKey Zm7)/\(xs.map Zh).Nodup
 | .set S n=>h.SetOf (intKind P w) a S n
 | .ins C dx fs=>H dx=some Zgs/\fs.length<=1000/\dx≠a/\h.get? a=some (Zg9 dx)/\
   ∃mA,h.Ns1 dx mA/\(∀f,Zle)/\Znj (fs.map Zh)
 | .own _=>∃o,h.get? a=some o
 | .xd fs=>∃mA,h.Ns1 a mA/\∀f,Zle
 | .JZ lo hi=>∃t u v,h.get? a=some {cls:=ZiG,data:=.fields #[.int lo t,.int hi u,Vv v]}
 | .bL o u=>h.get? a=some o/\dJ H h a u
 | .b9 ps=>h.get? a=some {cls:=.none,data:=.fields ps}
 | .met f x=>h.get? a=some (Zlv Zdp)
 | .ext φ=>φ h/\(∃o,h.get? a=some o)/\∀h1 h2:Heap,φ h1->(∀o,h1.get? a=some o->h2.get? a=some o)->φ h2
def c9(H:Hp)(h:Heap):Prop:=∀a o,H a=some o->Vh o
end
section
variable {P:Program}{w:World}{H H':Hp}{h h':Heap}{a:Addr}{o:HO}
theorem dJ.lt(x:Vh o):a<h.objs.size:=by
 cases o with
 |lst xs=>obtain⟨_,_,_,_,e⟩:=x;exact YL
 |tup xs=>obtain⟨_,_,_,p⟩:=x;exact p.lt
 |dK kvs=>obtain⟨_,_,_,_,o,_,_,e,_⟩:=x;exact YL
 |dT kvs=>obtain⟨_,_,_,_,o,_,_,e,_⟩:=x;exact YL
 |set S n=>obtain⟨o,_,_,_,e,_⟩:=x;exact YL
 |ins C dx fs=>obtain⟨_,_,_,e,_⟩:=x;exact YL
 |own y=>obtain⟨_,e⟩:=x;exact YL
 |xd fs=>obtain⟨_,⟨_,_,_,e,_⟩,_⟩:=x;exact YL
 |JZ lo hi=>obtain⟨_,_,_,e⟩:=x;exact YL
 |bL ob u=>obtain⟨e,_⟩:=x;exact YL
 |b9 ps=>exact Zrh
 |met f y=>exact Zrh
 |ext φ=>obtain⟨_,⟨_,e⟩,_⟩:=x;exact YL
theorem Paired.K1{α β:Type}{F G:Ur}:∀{l₁:ZN} {l₂:WA},ZcT l₁ l₂->(∀a b,F a b->G a b)->Paired G l₁ l₂
 |_,_,.nil,_=>.nil
 |_,_,.cons r t,f=>.cons (f _ _ r) (Paired.K1 t f)
theorem dJ.lP(x:Vh o)(k:∀b u,(b=a∨H b=some Zgs)->h.get? b=some u->h'.get? b=some u)
  (ho:∀b,H b=some Zgs->H' b=some Zgs) (ht:ZqC):dJ P w H' h' a o:=by
 induction o with
 |lst xs=>obtain⟨z,its,n,r,e⟩:=x;exact⟨z,its,n,r,Vj⟩
 |tup xs=>obtain⟨z,its,r,ob,e,c⟩:=x;exact⟨z,its,r,ob,Vj,c⟩
 |dK kvs=>obtain⟨z,y,vs,r,ob,es,ep,e,c⟩:=x;exact⟨z,y,vs,r,ob,es,ep,Vj,c⟩
 |dT kvs=>
  obtain⟨z,y,xs,r,ob,es,ep,e,c⟩:=x;exact⟨z,y,xs,Paired.K1 r λp q z=>Zsu,ob,es,ep,Vj,c⟩
 |set S n=>obtain⟨ob,es,ep,t,e,c⟩:=x;exact⟨ob,es,ep,t,Vj,c⟩
 |ins C dx fs=>
  obtain⟨d,z,ne,e,mA,⟨od,es,ep,e2,c⟩,r⟩:=x;exact⟨ho _ d,z,ne,Vj,mA,⟨od,es,ep,W7 (.inr d) e2,c⟩,r⟩
 |own y=>obtain⟨ob,e⟩:=x;exact⟨ob,Vj⟩
 |xd fs=>obtain⟨mA,⟨od,es,ep,e,c⟩,r⟩:=x;exact⟨mA,⟨od,es,ep,Vj,c⟩,r⟩
 |JZ lo hi=>obtain⟨t,u,v,e⟩:=x;exact⟨t,u,v,Vj⟩
 |bL ob u ih=>obtain⟨e,q⟩:=x;exact⟨Vj,ih q⟩
 |b9 ps=>
  have e:h.get? a=some {cls:=.none,data:=.fields ps}:=x;show h'.get? a=some {cls:=.none,data:=.fields ps};exact k a _ Xf e
 |met f y=>
  have e:h.get? a=some (Zlv (.ref y)):=x;show h'.get? a=some (Zlv (.ref y));exact k a _ Xf e
 |ext φ=>obtain⟨p,⟨o,e⟩,st⟩:=x;exact⟨st _ _ p λo q=>W7 Xf q,⟨o,Vj⟩,st⟩
theorem c9.lt(x:Xq)(e:H a=some o):a<h.objs.size:=(x a o e).lt
theorem c9.fresh(x:Xq)(e:Znt):H a=none:=by
 cases q:H a with
 |none=>rfl
 |some u=>exact absurd (hX (x.lt q) e) W5
theorem c9.kept(x:Xq)(k:ZgN):Za8 H h':=λa o e=>
 (x a o e).lP (λb u _ q=>k b u q) ZfN λ_ _ q=>q
theorem c9.laid(x:Xq)(k:ZgN)(hp:Znt)(new:dJ P w ZaO h' a o):Za8 ZaO h':=λb u e=>by
 have hn:=x.fresh hp;by_cases hb:b=a
 ·subst hb;rw[au]at e;cases e;exact new
 ·rw[ax hb]at e;exact(x b u e).lP (λc v _ q=>k c v q) (λc q=>by rw[ax ZbZ];exact q) λc xs q=>by rw[ax ZbZ];exact q
end
def Rd(H:Hp)(a:Addr)(u:HO):Prop:=H a=some u∨∃o,H a=some ZaK
theorem Rd.ok{P:Program}{w:World}{H:Hp}{h:Heap}{a:Addr}{u:HO}(r:Za6 u)(x:Xq):Vh u:=by
 rcases r with r|⟨o,r⟩
 ·exact x a u r
 ·obtain⟨_,q⟩:=x a _ r;exact q
def qr:ZaL->Prop
 |some (.lst _)=>True
 |some (.dK _)=>True
 |some (.dT _)=>True
 |some (.set _ _)=>True
 |some (.ins _ _ _)=>True
 |some (.ext _)=>True
 |_=>False
section
variable {P:Program}{w:World}{H:Hp}{h h':Heap}{x e:Addr}{o':HO}
theorem c9.write(ok:Xq)(mu:qr (H x))(he:Zmj)(k:Zo6)(xW:ZlA)
  (new:dJ P w (Zw x o') h' x o'):Za8 (Zw x o') h':=λb u q=>by
 have aaQ:∀c y,H c=some (.own y)->c≠x:=λc y r z=>by subst z;rw[r]at mu;exact mu
 have akD:∀c xs,H c=some Vk->c≠x:=λc xs r z=>by subst z;rw[r]at mu;exact mu
 by_cases hb:b=x
 ·subst hb;rw[au]at q;cases q;exact new
 ·rw[ax hb]at q;by_cases uG:b=e
  ·have q':H b=some UK:=by
    rcases he with z|z
    ·exact absurd (uG.trans z) hb
    ·rw[uG];exact z
   rw[q]at q';cases q';obtain⟨v,hv⟩:=xW;exact⟨v,by rw[uG];exact hv⟩
  ·refine(ok b u q).lP (λc v hc r=>k c v ?_ r) (λc r=>by rw[ax (aaQ c b r)];exact r) λc xs r=>by rw[ax (akD c xs r)];exact r
   rcases hc with rfl|hc
   ·exact uG
   ·rintro rfl;rcases he with z|z
    ·exact aaQ c b hc z
    ·rw[hc]at z;cases z;exact hb rfl
end
structure Un(fs ex:Zz)(H H':Hp)(h h':Heap):Prop where
 keep:∀b o,h.get? b=some o->H b=none->b∉fs->b∉ex->h'.get? b=some o
 slot:∀b o,h.get? b=some o->H b=none->b∈fs->b∉ex->∃sl,h'.get? b=some {o with slots:=sl}
 free:∀b o,h.get? b=some o->H b=none->b∉ex->H' b=none
 there:∀b o,h.get? b=some o->b∉ex->∃o',h'.get? b=some o'
 o6:∀b xs,H b=some Vk->H' b=some Vk
 nr:∀b o u,H b=some ZaK->H' b=some ZaK
 o8:∀b ps,H b=some Zgr->∃more,H' b=some (.b9 (ps++more))
section
variable {fs fs' ex ex':Zz}{H H1 H2:Hp}{h h1 h2 h':Heap}{a x e:Addr}{o:HO}
theorem Un.any(u:ZfX H1 h h1){b:Addr}{ob:Obj}(q:h.get? b=some ob)(n:H b=none)(hx:b∉ex):∃sl,h1.get? b=some {ob with slots:=sl}:=by
 by_cases hb:b∈fs
 ·exact u.slot b ob q n hb hx
 ·exact⟨ob.slots,u.keep b ob q n hb hx⟩
theorem Un.kept(k:ZgN):ZfX H h h':=
 ⟨λb ob q _ _ _=>k b ob q,λb ob q _ _ _=>⟨ob.slots,k b ob q⟩,λ_ _ _ n _=>n,λb ob q _=>⟨ob,k b ob q⟩,λ_ _ q=>q,λ_ _ _ q=>q,λ_ ps q=>⟨#[],by rw[q];simp⟩⟩
theorem Un.refl:ZfX H h h:=Un.kept λ_ _ q=>q
theorem Un.laid(k:ZgN)(hp:Znt)(hn:H a=none):ZfX ZaO h h' where
 keep:=λb u q _ _ _=>k b u q
 slot:=λb u q _ _ _=>⟨u.slots,k b u q⟩
 free:=λb u q n _=>by rw[ax (eB (hX (bT q) hp))];exact n
 there:=λb u q _=>⟨u,k b u q⟩
 o6:=λb xs q=>by rw[ax ZbZ];exact q
 nr:=λb u xs q=>by rw[ax ZbZ];exact q
 o8:=λb ps q=>⟨#[],by rw[ax ZbZ,q];simp⟩
theorem Un.write(mu:qr (H x))(he:Zmj)(k:Zo6)(xW:ZlA):ZfX (Zw x o) h h':=by
 have hx:∀b,H b=none->b≠x:=λb n z=>by subst z;rw[n]at mu;exact mu
 have hb:∀b,H b=none->b≠e:=λb n z=>by
  subst z;rcases he with r|r
  ·exact hx b n r
  ·rw[n]at r;cases r
 have hm:∀b u,H b=some u->¬qr ZdC->b≠x:=λb u q nm z=>by subst z;rw[q]at mu;exact nm mu
 refine⟨λb u q n _ _=>k b u (hb b n) q,λb u q n _ _=>⟨u.slots,k b u (hb b n) q⟩,λb u q n _=>by rw[ax (hx b n)];exact n,λb u q _=>?_,
  λb xs q=>by rw[ax (hm b _ q λz=>z)];exact q,λb u xs q=>by rw[ax (hm b _ q λz=>z)];exact q,λb ps q=>⟨#[],by rw[ax (hm b _ q λz=>z),q];simp⟩⟩
 by_cases uG:b=e
 ·subst uG;exact xW
 ·exact⟨u,k b u uG q⟩
end
def CJ(h:Heap)(H:Hp):Zz:=(List.range h.objs.size).filter λa=>(H a).isSome
def nh(h:Heap)(H:Hp):Heap:=PySem.W.hideAll h (CJ h H)
theorem ani(h:Heap)(H:Hp):(nh h H).objs.size =h.objs.size:=PySem.W.hideAll_size _ _
theorem anj{h:Heap}{H:Hp}{b:Addr}{o:Obj}(e:Zns)(n:H b=none):(nh h H).get? b=some o:=
 PySem.W.hideAll_get _ e λhm=>by have q:(H b).isSome =true:=(bD.mp hm).2;rw[n]at q;simp at q
theorem akx{h:Heap}{H:Hp}{b:Addr}{o:Obj}(e:(nh h H).get? b=some o):h.get? b=some o/\H b=none:=by
 have e':h.get? b=some o:=PySem.W.of_hideAll (CJ h H) e;refine⟨e',?_⟩;cases q:H b with
 |none=>rfl
 |some x=>
  have hm:b∈CJ h H:=bD.mpr ⟨dS.mpr (bT e'),by simp[q]⟩;have z:(nh h H).get? b=none:=PySem.W.hideAll_none (CJ h H) hm;rw[z]at e;cases e
def BN(g h:Heap)(L:Addr):Zx:=(List.range h.objs.size).filterMap λa=>if a=L∨(g.get? a).isSome =true then none else(h.get? a).map λo=>(a,o)
theorem ak6{g h:Heap}{L a:Addr}{o:Obj}(h1:a≠L)(h2:g.get? a=none)(h3:h.get? a=some o):(a,o)∈BN g h L:=
 G9.mpr ⟨a,dS.mpr (bT h3),by simp[h1,h2,h3]⟩
theorem akw{g h:Heap}{L:Addr}{p:ZfL}(hp:p∈BN g h L):p.1≠L/\g.get? p.1=none/\h.get? p.1=some p.2:=by
 obtain⟨b,_,e⟩:=G9.mp hp;split at e
 ·cases e
 ·rename_i hn;cases q:h.get? b with
  |none=>rw[q]at e;simp at e
  |some u=>
   rw[q]at e;simp only[Option.map_some,aeN]at e;subst e;refine⟨λz=>hn (.inl z),?_,q⟩;show g.get? b=none;cases r:g.get? b with
   |none=>rfl
   |some v=>exact(hn (.inr (by simp[r]))).elim
theorem akL{g h:Heap}{L:Addr}:News g L h (BN g h L):=λp hp=>let⟨a,b,c⟩:=akw hp;⟨c,a,b⟩
end L2
namespace L2
open PySem PySem.Spec PyProof.Rows
structure Mod(K:PySem.W.Frag)(mg:Zy)(base:Heap):Prop where
 xx:K.In base
 glob:base.Ns mainGlobals mg
 blt:∃mb,base.Ns builtinsNs mb/\∀x:Str,x≠"__name__"->mb x=bootBuiltins x
 nolimit:base.NoLimit
structure Cx where
 prog:Program
 w:World
 K:PySem.W.Frag
 mg:Str->Option Value
 base:Heap
 A:Around
 N:List Str
 gM:Shared
 vA:Hp
 env:Env
 outer:List Env
 stack:List Env
 ex:List Addr
 fn:Str->Bool
 calm:Bool
 pn:List ZfL
 xe:Value->Shared->Prop
def nt(l:WX):Zz:=l.filterMap (·.frame)
abbrev Cx.fs(X:Cx):Zz:=nt X.outer
def yM(sc:Scope)(x:Str):Prop:=sc.names.lookup x=some .local ∨sc.names.lookup x=some .cell ∨sc.names.lookup x=some .free
def Loc(sc:Scope)(x:Str):Prop:=sc.names.lookup x=some .local ∨sc.names.lookup x=some .cell
def Look(env:Env)(h:Heap)(m:Zy)(x:Str)(u:Value):Prop:=
 (env.kindOf x=some .local /\m x=some u)∨((env.kindOf x=some .cell ∨env.kindOf x=some .free)/\∃c,env.cells.lookup x=some c/\h.IsCell c ZdC)
structure Cx.Ok(X:Cx):Prop where
 mod:Mod X.K X.mg X.base
 kind:X.env.scope.kind=.function
 glob:X.env.globals=mainGlobals
 blt:X.env.builtins=builtinsNs
 above:X.gM.heap.objs.size<=X.env.locals
 inj:∀x y c,X.env.cells.lookup x=some c->X.env.cells.lookup y=some c->x=y
 has:∀x,(X.env.kindOf x=some .cell ∨X.env.kindOf x=some .free)->∃c,X.env.cells.lookup x=some c
 BH:∀x c,X.fn x=true->X.env.cells.lookup x=some c->X.gM.heap.objs.size<=c
 hd:X.calm=true->X.A.handled=none
 frames:X.A.frames=some X.stack
 CQ:X.stack=X.outer∨(X.stack=X.env::X.outer/\X.env.frame=some X.env.locals)
 FO:∀b∈X.ex,b≠X.env.locals/\∀x c,X.env.cells.lookup x=some c->c≠b
 bs:∀b o,X.base.get? b=some o->X.gM.heap.get? b=some o/\X.vA b=none
 oJ:X.base.objs.size<=X.gM.heap.objs.size
 Ao:∀b o,X.base.get? b=some o->b∉X.ex
 Bu:∀b∈X.ex,b∉X.fs
 mj:ZsN X.outer
 uS:∀b∈X.fs,X.vA b=none
structure Inv(X:Cx)(pins:Zx)(σ:List ZM)(H:Hp)(s:Shared):Prop where
 ok:X.Ok
 os:s.os=X.gM.os
 bare:AllBare s.gens
 base:Un X.fs X.ex X.vA H X.gM.heap s.heap
 loc:∃m,Zk5/\∀(i:Nat) (x:Str) (v:V),X.N[i]? =some x->σ[i]? =some VS->Zfb x->∃u,XQ/\Look X.env s.heap m x u
 cell:∀x c,X.env.cells.lookup x=some c->∃v,s.heap.IsCell c v
 free:H X.env.locals=none
 lE:∀x c,X.env.cells.lookup x=some c->H c=none
 pin:∀p∈X.pn++pins,s.heap.get? p.1=some p.2/\H p.1=none/\p.1≠X.env.locals/\p.1∉X.fs/\∀v,p.2.data≠.cell v
 aC:ZbD H s.heap
 len:σ.length=X.N.length
section
variable {X:Cx}{pins:Zx}{σ:List ZM}{H H':Hp}{s:Shared}{h':Heap}
theorem Cx.Ok.akG(ok:X.Ok){b:Addr}{o:Obj}(e:X.base.get? b=some o):b∉X.fs:=λhb=>by have:=(ok.mj.mem hb).1;rw[e]at this;cases this
theorem Inv.bs(I:Zg):∀b o,X.base.get? b=some o->s.heap.get? b=some o/\H b=none:=λb o e=>
 ⟨I.base.keep b o (Zjg e).1 (Zjg e).2 (I.ok.akG e) Zng,I.base.free b o (Zjg e).1 (Zjg e).2 Zng⟩
theorem Inv.bk(I:Zg):∀b o,X.base.get? b=some o->s.heap.get? b=some o:=λb o e=>(I.bs b o e).1
theorem Inv.mod(I:Zg):Mod X.K X.mg X.base:=I.ok.mod
theorem Inv.ku(I:Zg):X.K.In s.heap:=I.ok.mod.xx.keeps I.bk
theorem Inv.fr(I:Zg):∃m,Fr X.base X.env.locals s.heap m:=
 let⟨m,hn,_⟩:=I.loc
 ⟨m,hn,I.bk,Zjw I.ok.above⟩
theorem Inv.lt(I:Zg):X.env.locals<s.heap.objs.size:=let⟨_,hn,_⟩:=I.loc;hn.lt
theorem Inv.sz(I:Zg):X.gM.heap.objs.size<=s.heap.objs.size:=cq I.ok.above (iP I.lt)
theorem Inv.akE(I:Zg){a:Addr}(h:s.heap.objs.size<=a):a∉X.fs:=λhb=>by obtain⟨_,o,ho,_⟩:=I.ok.mj.mem hb;exact absurd (hX (bT ho) (cq I.sz h)) W5
theorem Inv.u4(I:Zg):∀x c,X.env.cells.lookup x=some c->c≠X.env.locals:=λx c e z=>by obtain⟨v,o,ho,hd⟩:=ZfV e;obtain⟨m,⟨o',es,ep,kE,xY,_⟩,_⟩:=I.loc;rw[z,kE]at ho;cases ho;rw[xY]at hd;cases hd
theorem Inv.mj(I:Zg):Zlf X.outer:=by
 have all:∀(l:WX),(∀b∈nt l,b∈X.fs)->ZsN l->Zlf l:=by
  intro l
  induction l with
  |nil=>intro _ _;trivial
  |cons env r ih=>
   intro hs hl;obtain⟨hk,⟨L,o,hf,hn,ho,hd⟩,hr⟩:=hl;have hL:L∈X.fs:=hs L (by unfold nt;rw[He,hf];exact aY);obtain⟨sl,e⟩:=I.base.slot L o ho (I.ok.uS L hL) hL λz=>I.ok.Bu L z hL;exact⟨hk,⟨L,_,hf,hn,e,hd⟩,ih (λb hb=>hs b (by unfold nt;rw[He,hf];exact Za3)) hr⟩
 exact all X.outer (λ_ hb=>hb) I.ok.mj
theorem Inv.stack(I:Zg):Zlf X.stack:=by
 rcases I.ok.CQ with e|⟨e,hf⟩
 ·rw[e];exact I.mj
 ·rw[e];obtain⟨m,hn,_⟩:=I.loc;refine .cons (by rw[I.ok.kind];decide) hf hn ?_ I.mj;exact Heap.get?_none_of_le (Zjw I.ok.above)
theorem Inv.Ii(I:Zg):∀b∈nt X.stack,b∈X.env.locals::X.fs:=λb hb=>by
 rcases I.ok.CQ with e|⟨e,hf⟩
 ·rw[e]at hb;exact Za3
 ·rw[e]at hb;unfold nt at hb;rw[He,hf]at hb;exact hb
theorem Inv.Qv(I:Zg):∀b∈nt X.stack,H b=none:=λb hb=>by
 rcases aJ.mp (I.Ii b hb)with e|hb
 ·rw[e];exact I.free
 ·obtain⟨_,o,ho,_⟩:=I.ok.mj.mem hb;exact I.base.free b o ho (I.ok.uS b hb) λz=>I.ok.Bu b z hb
theorem Inv.step{g':Array GenState}{t':Nat}{d':Drawn}{ch:Zz}(I:Zg)
  (gW:ZjD)
  (keep:∀b o,b≠X.env.locals->b∉X.fs->b∉ch->s.heap.get? b=some o->H b=none->h'.get? b=some o)
  (slot:∀b o,b≠X.env.locals->b∈X.fs->b∉ch->s.heap.get? b=some o->H b=none->∃sl,h'.get? b=some {o with slots:=sl}) (free:∀b o,b∉ch->s.heap.get? b=some o->H b=none->H' b=none)
  (there:∀b o,b∉ch->s.heap.get? b=some o->∃o',h'.get? b=some o')
  (o6:ZqC) (nr:∀b o u,H b=some ZaK->H' b=some ZaK) (o8:∀b ps,H b=some Zgr->∃more,H' b=some (.b9 (ps++more)))
  (ns:∀m,Zk5->h'.Ns X.env.locals m) (aC:ZbD H' h') (hg:AllBare g'):
  Inv X pins σ H' {s with heap:=h',gens:=g',drawn:=d',toks:=t'}:=by
 have neL:∀b o,X.gM.heap.get? b=some o->b≠X.env.locals:=λb o e=>Zg6;have Ek:∀b o,X.gM.heap.get? b=some o->b∉X.ex->b∉ch:=λb o e hx hb=>by
  rcases(gW b hb).1 with z|z
  ·exact hx z
  ·exact absurd (hX YL z) W5
 have cellK:∀x c,X.env.cells.lookup x=some c->∀v,s.heap.IsCell c v->h'.IsCell c v:=λx c e v ⟨o,ho,hd⟩=>by
  have As:c∉ch:=λz=>(gW c z).2.2.1 x c e rfl;by_cases hc:c∈X.fs
  ·obtain⟨sl,q⟩:=slot c o (I.u4 x c e) hc As ho Zfr;exact⟨_,q,hd⟩
  ·exact⟨o,keep c o (I.u4 x c e) hc As ho Zfr,hd⟩
 refine⟨I.ok,I.os,hg,⟨λb o e n hb hx=>?_,λb o e n hb hx=>?_,λb o e n hx=>?_,λb o e hx=>?_,λb xs e=>o6 b xs (I.base.o6 b xs e),λb o xs e=>nr b o xs (I.base.nr b o xs e),λb ps e=>?_⟩,?_,λx c e=>?_,?_,λx c e=>?_,λp hp=>?_,aC,I.len⟩
 ·exact keep b o (neL b o e) hb ZiB Zkx Zeu
 ·ext aY;obtain⟨sl',e2⟩:=slot b _ (neL b o e) hb ZiB e1 Zeu;exact⟨sl',e2⟩
 ·ext ac;exact free b o' ZiB e1 Zeu
 ·ext ac;exact there b o' ZiB e1
 ·obtain⟨m1,e1⟩:=I.base.o8 b ps e;obtain⟨m2,e2⟩:=o8 b _ e1;exact⟨m1++m2,by rw[e2,Array.append_assoc]⟩
 ·ext aw;refine⟨m,ns m hn,λi x v e1 e2 e3=>?_⟩;obtain⟨u,r,l⟩:=hl i x v e1 e2 e3;refine⟨u,r,?_⟩;rcases l with l|⟨k,c,e,z⟩
  ·exact .inl l
  ·exact .inr ⟨k,c,e,cellK x c e _ z⟩
 ·obtain⟨v,z⟩:=ZfV e;exact⟨v,cellK x c e v z⟩
 ·obtain⟨m,⟨o,_,_,ho,_⟩,_⟩:=I.loc;exact free _ o (λz=>(gW _ z).2.1 rfl) ho I.free
 ·obtain⟨v,o,ho,hd⟩:=ZfV e;exact free c o (λz=>(gW c z).2.2.1 x c e rfl) ho Zfr
 ·ext a5;have As:p.1∉ch:=λz=>(gW p.1 z).2.2.2 p hp rfl;exact⟨keep p.1 p.2 ne nf As e n,free p.1 p.2 As e n,ne,nf,d⟩
theorem Inv.un{t':Nat}(I:Zg)(u:Un X.fs [] H H' s.heap h')(aC:ZbD H' h'):ZU H' {s with heap:=h',toks:=t'}:=by obtain⟨m,⟨o,es,ep,ho,r⟩,_⟩:=id I.loc;obtain⟨sl,hL⟩:=u.any ho I.free Zf;exact Zrw (λb o _ hb _ e n=>u.keep b o e n hb Zf) (λb o _ hb _ e n=>u.slot b o e n hb Zf) (λb o _ e n=>u.free b o e n Zf) (λb o _ e=>u.there b o e Zf) u.o6 u.nr u.o8 (λm' hm=>Zoo) aC I.bare
theorem Inv.call{g':Array GenState}{t':Nat}{d':Drawn}{ch:Zz}(I:Zg)(u:ZrG h')(aC:ZbD H' h')(hg:AllBare g')
  (gW:ZjD):
  Inv X pins σ H' {s with heap:=h',gens:=g',drawn:=d',toks:=t'}:=by
 obtain⟨m,⟨o,es,ep,ho,r⟩,_⟩:=id I.loc;obtain⟨sl,hL⟩:=u.any ho I.free λz=>(gW _ z).2.1 rfl;exact I.step (ch:=ch) gW (λb o hL hb hc e n=>u.keep b o e n (λz=>(aJ.mp (I.Ii b z)).elim hL hb) hc) (λb o _ _ hc e n=>u.any e n hc) (λb o hc e n=>u.free b o e n hc) (λb o hc e=>u.there b o e hc) u.o6 u.nr u.o8 (λm' hm=>Zoo) aC hg
theorem Inv.turned{t':Nat}{it:Addr}(I:Zg)(k:∀b o,b≠it->s.heap.get? b=some o->h'.get? b=some o)(hn:H it=none)(hL:it≠X.env.locals)
  (h1:it∈X.ex∨X.gM.heap.objs.size<=it) (h2:∀x c,X.env.cells.lookup x=some c->c≠it) (h3:∀p∈X.pn++pins,p.1≠it):ZU H {s with heap:=h',toks:=t'}:=by
 have qZ:∀b u,H b=some u->b≠it:=λb u e z=>by rw[z,hn]at e;cases e
 refine ZoA (ch:=[it]) (λb hb=>?_) (λb o _ _ hc e _=>Zks) (λb o _ _ hc e _=>⟨o.slots,Zks⟩) (λ_ _ _ _ n=>n)
  (λb o hc e=>⟨o,Zks⟩) (λ_ _ e=>e) ZnB Zj7 (λm hm=>?_) ZiF I.bare
 ·have e:b=it:=by simpa using hb
  subst e;exact⟨h1,hL,h2,h3⟩
 ·obtain⟨o,es,ep,ho,r⟩:=hm;exact⟨o,es,ep,k _ o (qp hL) ho,r⟩
 ·refine(I.aC b u e).lP ZkV ZfN λ_ _ q=>q;rcases hc with z|z
  ·rw[z];exact qZ b u e
  ·exact qZ c _ z
theorem Inv.tok(I:Zg)(t:Nat):ZU H {s with toks:=t}:=I.un (h':=s.heap) (t':=t) Un.refl I.aC
theorem Inv.kept{t':Nat}(I:Zg)(k:Zpg):ZU H {s with heap:=h',toks:=t'}:=I.un (Un.kept k) (I.aC.kept k)
theorem Inv.laid{a:Addr}{o:HO}{t':Nat}(I:Zg)(k:Zpg)(hp:s.heap.objs.size<=a)(new:WL ZaO h' a o):
  Inv X pins σ ZaO {s with heap:=h',toks:=t'}:=I.un (Un.laid k hp (I.aC.fresh hp)) (I.aC.laid k hp new)
theorem Inv.write{x e:Addr}{o:HO}{t':Nat}(I:Zg)(mu:qr (H x))(he:Zmj)(k:∀b u,b≠e->s.heap.get? b=some u->h'.get? b=some u)(xW:ZlA)
  (new:WL (Zw x o) h' x o):ZU (Zw x o) {s with heap:=h',toks:=t'}:=I.un (Un.write mu he k xW) (I.aC.write mu he k xW new)
theorem Inv.weak{σ':List ZM}(I:Zg)(hl:σ'.length=σ.length)(w:∀(i:Nat) v,σ'[i]? =some VS->σ[i]? =some VS):Inv X pins σ' H s:=
 ⟨I.ok,I.os,I.bare,I.base,let⟨m,hn,uz⟩:=I.loc;⟨m,hn,λi x v e1 e2 e3=>uz i x v e1 (w i v e2) e3⟩,I.cell,I.free,I.lE,I.pin,I.aC,hl.trans I.len⟩
theorem Inv.aal{aam:Zx}(I:Zg)(h:∀p∈aam,s.heap.get? p.1=some p.2/\H p.1=none/\p.1≠X.env.locals/\p.1∉X.fs/\∀v,p.2.data≠.cell v):Inv X aam σ H s:=
 ⟨I.ok,I.os,I.bare,I.base,I.loc,I.cell,I.free,I.lE,λp hp=>(b8.mp hp).elim (λz=>I.pin p (my _ z)) (h p),I.aC,I.len⟩
theorem Kw{N:Zc}(hN:N.Nodup){i j:Nat}{x:Str}(a:N[i]? =some x)(b:N[j]? =some x):i=j:=by obtain⟨h1,e1⟩:=iQ.mp a;obtain⟨h2,e2⟩:=iQ.mp b;exact(afx hN).mp (e1.trans e2.symm)
theorem Qu{M:Model}{A:Around}{E:Zu}{i:Nat}{x:Str}{v:V}{u:Value}{Q:Zah}(I:Zg)(hN:X.N.Nodup)(hi:ZcQ)(hx:Zal)(r:XQ)
  (h:∀s',ZrE->(∃a,Zhs s'.heap/\(a=X.env.locals∨X.env.cells.lookup x=some a))->Q () s') (hf:X.fn x=true∨X.env.scope.names.lookup x=some .local :=by first |exact .inl rfl|exact .inr rfl|assumption):Zrv:=by
 obtain⟨m,hn,hl⟩:=id I.loc;have anA:(X.env.scope.kind==.class ||(X.env.scope.kind==.module &&X.env.locals != X.env.globals))=false:=by rw[I.ok.kind];rfl
 have hiσ:i<σ.length:=by rw[I.len];exact(iQ.mp hi).1
 have u4:=I.u4;have tracked:∀{a:Addr} {h':Heap},(∃o,s.heap.get? a=some o/\H a=none)->Zhs h'->ZbD H h':=λ{a h'} ha hs b ob e=>by
  obtain⟨_,_,rO⟩:=ha;refine(I.aC b ob e).lP (λc w' hc q=>(hs.2 c ?_).trans q) ZfN λ_ _ q=>q;rintro rfl;rcases hc with rfl|hc
  ·rw[rO]at e;cases e
  ·rw[rO]at hc;cases hc
 rcases hx with hk|hk
 ·refine wpAny_storeName_local hk hn (λh' xR hs=>?_) anA;obtain⟨oL,_,_,uv,_⟩:=id hn;refine h _ ⟨I.ok,I.os,I.bare,Zoa,⟨_,xR,λj y v' e1 e2 e3=>?_⟩,λy c e=>?_,I.free,I.lE,λp hp=>?_,tracked ⟨oL,uv,I.free⟩ hs,by simpa using I.len⟩ ⟨_,hs,.inl rfl⟩
  ·exact(Zbb Zg6).trans Zkx
  ·ext aY;exact⟨sl,(Zbb Zg6).trans e1⟩
  ·ext ac;exact⟨o',(Zbb Zg6).trans e1⟩
  ·by_cases hj:j=i
   ·ext ct
    exact⟨u,r,.inl ⟨hk,Zf⟩⟩
   ·ext b2;rcases q with⟨k,e⟩|⟨k,c,e,z⟩
    ·refine .inl ⟨k,?_⟩;have:y≠x:=λe=>hj (Kw hN e1 (e▸hi));simp[this,e]
    ·exact .inr ⟨k,c,e,z.sameBut hs (u4 y c e)⟩
  ·obtain⟨w',z⟩:=I.cell y c e;exact⟨w',z.sameBut hs (u4 y c e)⟩
  ·ext a5;exact⟨(hs.2 p.1 ne).trans e,n,ne,nf,d⟩
 ·have j4:X.fn x=true:=by
   rcases hf with z|z
   ·exact z
   ·rw[z]at hk;cases hk
  obtain⟨c,hc⟩:=I.ok.has x (.inl hk);obtain⟨w',z⟩:=ZfV hc;refine wpAny_storeName_cell I.ok.kind hk hc z (λh' fI hs=>?_);obtain⟨oc,hoc,amM⟩:=id z;refine h {s with heap:=h'} ⟨I.ok,I.os,I.bare,Zoa,⟨m,hn.sameBut hs (qp (u4 x c hc)),λj y v' e1 e2 e3=>?_⟩,λy c' e=>?_,I.free,I.lE,λp hp=>?_,tracked ⟨oc,hoc,I.lE x c hc⟩ hs,by simpa using I.len⟩ ⟨c,hs,.inr hc⟩
  ·exact(Zbb Zj4).trans Zkx
  ·ext aY;exact⟨sl,(Zbb Zj4).trans e1⟩
  ·ext ac;exact⟨o',(Zbb Zj4).trans e1⟩
  ·by_cases hj:j=i
   ·ext ct
    exact⟨u,r,.inr ⟨.inl hk,c,hc,fI⟩⟩
   ·ext b2;rcases q with q|⟨k,c',e,z'⟩
    ·exact X9
    ·refine .inr ⟨k,c',e,z'.sameBut hs ?_⟩;rintro rfl;exact hj (Kw hN e1 (I.ok.inj _ _ _ e hc▸hi))
  ·by_cases hcc:c'=c
   ·subst hcc;exact⟨_,fI⟩
   ·obtain⟨w2,z2⟩:=I.cell y c' e;exact⟨w2,z2.sameBut hs hcc⟩
  ·ext a5;refine⟨(hs.2 p.1 ?_).trans e,n,ne,nf,d⟩;intro q;rw[q,hoc]at e;have q':oc=p.2:=bY e;exact d w' (by rw[←q'];exact amM)
theorem Ih{M:Model}{A:Around}{E:Zu}{i:Nat}{x:Str}{v:V}{u:Value}{Q:Zah}(I:Zg)(hN:X.N.Nodup)(hi:ZcQ)(hx:Zal)(r:XQ)
  (h:∀s',ZrE->Q () s') (hf:X.fn x=true∨X.env.scope.names.lookup x=some .local :=by first |exact .inl rfl|exact .inr rfl|assumption):Zrv:=
 Qu I hN hi hx r (λs' I' _=>h s' I') hf
theorem Inv.arv{s':Shared}{ch:Zz}(I:Zg)(ho:s'.os=s.os)(u:ZrG s'.heap)(aC:ZbD H' s'.heap)(hg:Znc)
  (gW:ZjD):VQ:=by
 obtain⟨h',g',d',t',o'⟩:=s';have e:o'=s.os:=ho;subst e;exact I.call (g':=g') (t':=t') (d':=d') u aC hg gW
end
abbrev XK:=Value->Wt->Hp->Prop
abbrev St:=List ZM
abbrev VK:=V->Hp->Prop
abbrev TE:=St->Hp->VK->Prop
abbrev TT:=St->Hp->(Bool->Hp->Prop)->Prop
abbrev TA:=St->Hp->(List V->Hp->Prop)->Prop
structure Ends where
 nx:St->Hp->Prop
 rt:VK
 bk:St->Hp->Prop:=λ_ _=>False
 ct:St->Hp->Prop:=λ_ _=>False
abbrev TS:=Ends->St->Hp->Prop
def EP(X:Cx)(pins:Zx)(σ:St)(Q:VK)(u:Value)(s':Shared):Prop:=∃v H',VQ/\XQ/\Q v H'
def TP(X:Cx)(pins:Zx)(σ:St)(Q:ZeW)(b:Bool)(s':Shared):Prop:=∃H',VQ/\Q b H'
def AP(X:Cx)(pins:Zx)(σ:St)(Q:Ze->Hp->Prop)(us:Zp)(s':Shared):Prop:=∃vs H',VQ/\ZaI/\Q vs H'
def SP(X:Cx)(pins:Zx)(D:Ends)(f:Flow)(s':Shared):Prop:=
 match f with
 | .next =>∃σ' H',Zbi/\D.nx σ' H'
 | .brk =>∃σ' H',Zbi/\D.bk σ' H'
 | .cont =>∃σ' H',Zbi/\D.ct σ' H'
 | .ret u=>∃v σ' H',Zbi/\XQ/\D.rt v H'
def PE(X:Cx)(e:Expr)(t:TE):Prop:=
 ∀(pins:Zx) (s:Shared) (σ:St) (H:Hp) (Q:VK),Zg->Zca->Yx Yz YB X.xe s
def PT(X:Cx)(e:Expr)(t:TT):Prop:=
 ∀(pins:Zx) (s:Shared) (σ:St) (H:Hp) (Q:ZeW),Zg->Zca->Yx (isTrue e X.env Yz) Zh1 X.xe s
def PW(X:Cx)(e:Expr)(t:TT):Prop:=
 ∀(whole:Sem Value) (pins:Zx) (s:Shared) (σ:St) (H:Hp) (Q:ZeW),Zg->Zca->Yx (isTrue e X.env whole) Zh1 X.xe s
theorem PW.pt{X:Cx}{e:Expr}{t:TT}(h:PW X e t):PT X e t:=h _
def PA(X:Cx)(es:Ya)(t:TA):Prop:=
 ∀(pos:Pos) (pins:Zx) (s:Shared) (σ:St) (H:Hp) (Q:Ze->Hp->Prop),Zg->Zca->Yx (spliced (Xb WJ)) (AP X pins σ Q) X.xe s
def PS(X:Cx)(st:Stmt)(t:TS):Prop:=
 ∀(pins:Zx) (s:Shared) (σ:St) (H:Hp) (D:Ends),Zg->t D σ H->Yx (exec st X.env) Zfs X.xe s
def jb(X:Cx)(st:WU)(t:TS):Prop:=
 ∀(pins:Zx) (s:Shared) (σ:St) (H:Hp) (D:Ends),Zg->t D σ H->Yx (execs st X.env) Zfs X.xe s
theorem aN{α:Type}{t:Sem α}{Q Q':Zmm}{M:Model}{A:Around}{E:Zu}{s:Shared}(h:Vm t Q E s)(hQ:∀a s,Q a s->Q' a s):Vm t Q' E s:=gL h hQ λ_ _ x=>x
end L2
namespace L2
open PySem PySem.Spec PyProof.Rows
section
variable {X:Cx}
theorem bin{a b:Expr}{ta tb:TE}(ha:We)(hb:UT){pins:Zx}{s:Shared}{σ:St}{H:Hp}{R:V->V->Hp->Prop}(I:Zg)(h:ZpX)
  {α:Type} {Q:Zmm} {f:Value->Value->Sem α}
  (hf:Zoq):
  wpAny Yf X.A Zix Zop X.xe s:=by
 refine aN VA λv s1 ⟨x,H1,I1,r1,q1⟩=>?_;refine aN Zfd λu s2 ⟨y,H2,I2,r2,q2⟩=>?_;exact Zsp
def lL(i:Nat):TE:=fun σ H Q=>∃v,σ[i]? =some VS/\Q v H
def tC(v:V):TE:=λ_ H Q=>Q v H
theorem air{i:Nat}{x:Str}{pos:Pos}(hN:ZcQ)(hv:Zfb x)(hd:(x==("__debug__":Str))=false:=by decide)(lz:(x==("__classdict__":Str))=false:=by decide):Zt Um (lL i):=by
 ext f;obtain⟨v,e,h⟩:=h;ext aw;obtain⟨u,r,l⟩:=hl i x v hN e hv;have fin:YB u s:=⟨v,H,I,r,h⟩;rcases l with⟨hk,hm⟩|⟨hk,c,hc,hcell⟩
 ·exact HI (PY I.ok.kind hk hn hm fin) hd
 ·rcases hk with hk|hk
  ·exact HI (ZpO fin) hd
  ·exact HI (wpAny_loadName_free I.ok.kind hk hc hcell fin lz) hd
theorem aR{i j pos}:Zt (.Constant Xs j pos) (tC Xs):=λ_ _ _ H _ I h=>wpAny_Constant_int ⟨Xs,H,YJ,Zs,h⟩
theorem ki{b j pos}:Zt (.Constant (.bool b) j pos) (tC WB):=λ_ _ _ H _ I h=>Constant_bool ⟨WB,H,I,rfl,h⟩
theorem tM{j pos}:Zt (.Constant .none j pos) (tC .ba):=λ_ _ _ H _ I h=>Constant_none ⟨.ba,H,I,rfl,h⟩
theorem cW{x j pos}:Zt (.Constant U1 j pos) (tC U1):=λ_ _ _ H _ I h=>Calls.Constant_str ⟨U1,H,YJ,Zs,h⟩
def Gl(X:Cx)(x:Str):Prop:=X.env.kindOf x=some .globalImplicit
theorem Eu{E:Zu}{pins:Zx}{s:Shared}{σ:St}{H:Hp}{x:Str}{u:Value}{pos:Pos}{Q:Zu}(I:Zg)(hg:XX)(hm:X.mg x=some u)(h:Q u s)
  (hd:(x==("__debug__":Str))=false:=by decide):ZsO:=
 afZ I.ok.kind hg (Calls.loadGlobal_global (by rw[I.ok.glob];exact Zlu) hm h) hd
theorem rq{E:Zu}{pins:Zx}{s:Shared}{σ:St}{H:Hp}{x:Str}{u:Value}{pos:Pos}{Q:Zu}(I:Zg)(hg:XX)(hm:X.mg x=none)(hv:bootBuiltins x=some u)(h:Q u s)
  (hn:x≠"__name__":=by decide) (hd:(x==("__debug__":Str))=false:=by decide):ZsO:=by
 obtain⟨mb,h1,h2⟩:=I.mod.blt;exact afZ I.ok.kind hg (atw (by rw[I.ok.glob];exact Zlu) hm (by rw[I.ok.blt];exact h1.keeps I.bk) ((h2 x hn).trans hv) h) hd
theorem Kl{x:Str}{v:V}{u:Value}{pos:Pos}(hg:XX)(hm:X.mg x=some u)(r:XQ)(hd:(x==("__debug__":Str))=false:=by decide):Zt Um (tC v):=
 λ_ _ _ H _ I h=>Eu I hg hm ⟨v,H,I,r,h⟩ hd
variable {a b:Expr}{ta tb:TE}{pos:Pos}
def PC(X:Cx)(op:CmpOp)(a b:Expr)(t:TE):Prop:=
 ∀(pins:Zx) (s:Shared) (σ:St) (H:Hp) (Q:VK),Zg->Zca->
  wpAny Yf X.A Zix (λv s₁=>Yx (eval b X.env) (λu s₂=>Yx (compareOp op v u) YB X.xe s₂) X.xe s₁) X.xe s
def tB(t:TE):TT:=fun σ H Q=>t σ H λx H1=>∃c,x=.bl c/\Q c H1
theorem T8{op:CmpOp}{t:TE}(h:PC X op a b t)(h1:Zh8 b=false:=by first |exact atQ _ (by decide) (by decide)|rfl):PT X ZkH (tB t):=by
 intro pins s σ H Q I hw;refine wpAny_isTrue_Compare1 (aN (UA H _ I hw) λv s1 h1=>aN h1 λu s2 h2=>aN h2 λc s3 ⟨x,H1,I1,r1,q1⟩=>?_) h1;obtain⟨d,rfl,q⟩:=q1;cases r1
 exact qA ⟨H1,I1,q⟩
variable {tA CO:TT}{rest:Ya}
def wt(t u:TT):TT:=fun σ H Q=>t σ H λc H1=>if c=true then u σ H1 Q else Q false H1
def vV(t u:TT):TT:=fun σ H Q=>t σ H λc H1=>if c=true then Q true H1 else u σ H1 Q
def vW(t:TT):TT:=fun σ H Q=>t σ H λc H1=>Q (!c) H1
theorem J_(ha:Zgg):PW X (.BoolOp .And [a] pos) tA:=by
 ext av;refine isTrue_and Zpy;cases c with
 |true=>exact isTrue_and_nil e
 |false=>exact e
theorem pq(ha:Zgg):PW X (.BoolOp .Or [a] pos) tA:=by
 ext av;refine isTrue_or Zpy;cases c with
 |false=>exact isTrue_or_nil e
 |true=>exact e
theorem Ka(ha:Zgg)(hb:PW X ZrA CO):PW X Zq5 (wt tA CO):=by
 ext av;refine isTrue_and Zqw;cases c with
 |true=>exact ZsD
 |false=>exact⟨H1,I1,q1⟩
theorem px(ha:Zgg)(hb:PW X ZrU CO):PW X Zrc (vV tA CO):=by
 ext av;refine isTrue_or Zqw;cases c with
 |true=>exact⟨H1,I1,q1⟩
 |false=>exact ZsD
theorem eR(ha:Zgg):PT X (.UnaryOp .Not a pos) (vW tA):=by intro pins s σ H Q I h;exact isTrue_not (ha pins s σ H (λc H1=>Q (!c) H1) I h)
def wq(ta tb:TE):TE:=fun σ H Q=>Xc H λx H1=>∃c,x=.bl c/\if c=true then tb σ H1 Q else Q ZaE H1
def vU(ta tb:TE):TE:=fun σ H Q=>Xc H λx H1=>∃c,x=.bl c/\if c=true then Q (.bl true) H1 else tb σ H1 Q
def zA(ta:TE):TE:=fun σ H Q=>Xc H λx H1=>∃c,x=.bl c/\Q (.bl (!c)) H1
theorem mR{op}{t:TE}(h:Zt a t):Zt (.BoolOp op [a] pos) t:=λpins s σ H Q I hw=>BoolOp_one (UA H Q I hw)
theorem lT(ha:We)(hb:Zt ZrA tb):Zt Zq5 (wq ta tb):=by
 ext f;refine BoolOp_and ZpI;obtain⟨c,rfl,q1⟩:=q1;cases r1
 refine qA ?_;cases c with
 |true=>exact Zei Q I1 q1
 |false=>exact⟨ZaE,H1,I1,rfl,q1⟩
theorem aap(ha:We)(hb:Zt ZrU tb):Zt Zrc (vU ta tb):=by
 ext f;refine BoolOp_or ZpI;obtain⟨c,rfl,q1⟩:=q1;cases r1
 refine qA ?_;cases c with
 |false=>exact Zei Q I1 q1
 |true=>exact⟨.bl true,H1,I1,rfl,q1⟩
def wb(t:TT)(ta tb:TE):TE:=fun σ H Q=>t σ H λc H1=>if c=true then Xc H1 Q else tb σ H1 Q
theorem w8{c:Expr}(hc:PT X c tA)(ha:We)(hb:UT):Zt (.IfExp c a b pos) (wb tA ta tb):=by
 ext f;refine wpAny_IfExp ZoS;cases d with
 |true=>exact ZmZ Q I1 q1
 |false=>exact Zei Q I1 q1
end
end L2
namespace L2
open PySem PySem.Spec PyProof.Rows
def ag(K:PySem.W.Frag)(H:Hp)(a:Addr)(xs:Ze):Prop:=
 Rd H a Yq∨
  ∃(o:Obj) (its:YS) (n:Nat),K.lookup a=some o/\o.cls=.type "list"/\o.dict=none/\o.data=.seq its n/\its.size<=sizeLine/\Zen its.toList
def bM(K:PySem.W.Frag)(H:Hp)(a:Addr)(xs:Ze):Prop:=
 Rd H a Vk∨
  ∃(o:Obj) (its:YS) (n:Nat),K.lookup a=some o/\o.cls=.type "tuple"/\o.data=.seq its n/\its.size<=sizeLine/\Zen its.toList
def ar7:Value->Option V
 | .none =>some .ba
 | .bool b=>some WB
 | .int i _=>some Xs
 | .str x _=>some U1
 | .bytes b _=>some (.gr b)
 | .float b _=>some (.FJ b)
 | .ref a=>Zf3
 | .type n=>some (.ty n)
 |_=>none
theorem RelV.abs{x:V}{u:Value}(r:RelV x u):ar7 u=some x:=by
 cases x with
 |ba=>cases r;rfl
 |bl _=>cases r;rfl
 |int _=>obtain⟨t,rfl⟩:=r;rfl
 |str _=>obtain⟨t,rfl⟩:=r;rfl
 |gr _=>obtain⟨t,rfl⟩:=r;rfl
 |FJ _=>obtain⟨t,rfl⟩:=r;rfl
 |ref _=>cases r;rfl
 |ty _=>cases r;rfl
theorem RelV.inj{x y:V}{u:Value}(r:RelV x u)(q:XC):x=y:=bY (r.abs.symm.trans q.abs)
theorem Vals.inj:∀{xs ys:Ze} {us:Zp},WD->Zcd us->xs=ys
 |_,_,_,.nil,.nil =>rfl
 |_,_,_,.cons r t,.cons r' t'=>by rw[r.inj r',Vals.inj t t']
section
variable {X:Cx}{pins:Zx}{σ:St}{H:Hp}{s:Shared}{a:Addr}{xs ys:Ze}
theorem ag.of{K:PySem.W.Frag}(h:H a=some Yq):YO:=.inl XN
theorem bM.of{K:PySem.W.Frag}(h:H a=some Vk):VJ:=.inl XN
theorem Inv.list(I:Zg)(h:ZaY a xs):∃its:List Value,U0/\PlainL s.heap a its.toArray/\xs.length<=sizeLine:=by
 rcases h with h|⟨o,its,n,hk,hc,hd,hs,hz,r⟩
 ·obtain⟨z,its,n,r,e⟩:=h.ok I.aC;exact⟨its,r,⟨_,n,e,rfl,rfl,rfl⟩,z⟩
 ·refine⟨its.toList,r,⟨o,n,I.ku a o hk,hc,hd,by simpa using hs⟩,?_⟩;have e:=r.length;simp only[oV]at e;omega
theorem Inv.tuple(I:Zg)(h:Za0 a xs):∃its:List Value,U0/\IsTup s.heap a its.toArray/\xs.length<=sizeLine:=by
 rcases h with h|⟨o,its,n,hk,hc,hs,hz,r⟩
 ·obtain⟨z,its,r,p⟩:=h.ok I.aC;exact⟨its,r,p,z⟩
 ·refine⟨its.toList,r,⟨o,I.ku a o hk,hc,n,by simpa using hs⟩,?_⟩;have e:=r.length;simp only[oV]at e;omega
theorem Inv.rj(I:Zg)(h:ZaY a xs)(h':ZaY a ys):xs=ys:=by
 obtain⟨its,r,⟨o,n,e,_,_,d⟩,_⟩:=I.list h;obtain⟨its',r',⟨o',n',e',_,_,d'⟩,_⟩:=I.list h';rw[e]at e';cases e';rw[d]at d';injection d' with d1 _
 have:its=its':=by simpa using cb Array.toList d1
 subst this;exact r.inj r'
theorem Inv.agJ(I:Zg)(h:Za0 a xs)(h':Za0 a ys):xs=ys:=by
 obtain⟨its,r,⟨o,e,_,n,d⟩,_⟩:=I.tuple h;obtain⟨its',r',⟨o',e',_,n',d'⟩,_⟩:=I.tuple h';rw[e]at e';cases e';rw[d]at d';injection d' with d1 _
 have:its=its':=by simpa using cb Array.toList d1
 subst this;exact r.inj r'
end
abbrev Cx.lK(X:Cx)(E:Zu):Cx:={X with xe:=E}
abbrev Cx.mT(X:Cx):Cx:=X.lK λ_ _=>False
theorem Cx.Ok.lK{X:Cx}(ok:X.Ok)(E:Zu):(X.lK E).Ok :=
 ⟨ok.mod,ok.kind,ok.glob,ok.blt,ok.above,ok.inj,ok.has,ok.BH,ok.hd,ok.frames,ok.CQ,ok.FO,ok.bs,ok.oJ,ok.Ao,ok.Bu,ok.mj,ok.uS⟩
theorem Cx.Ok.nJ{X:Cx}{E:Zu}(ok:(X.lK E).Ok):X.Ok:=
 ⟨ok.mod,ok.kind,ok.glob,ok.blt,ok.above,ok.inj,ok.has,ok.BH,ok.hd,ok.frames,ok.CQ,ok.FO,ok.bs,ok.oJ,ok.Ao,ok.Bu,ok.mj,ok.uS⟩
section
variable {X:Cx}{pins:Zx}{σ:St}{H:Hp}{s:Shared}{E:Zu}
theorem Inv.lK(I:Zg)(E:Zu):Ztw:=⟨I.ok.lK E,I.os,I.bare,I.base,I.loc,I.cell,I.free,I.lE,I.pin,I.aC,I.len⟩
theorem Inv.nJ(I:Ztw):Zg:=⟨I.ok.nJ,I.os,I.bare,I.base,I.loc,I.cell,I.free,I.lE,I.pin,I.aC,I.len⟩
theorem SP.nJ{D:Ends}{f:Flow}{s':Shared}(h:SP (X.lK E) pins D f s'):Zfs f s':=by
 cases f with
 |next=>obtain⟨σ',H',I,q⟩:=h;exact Zmq
 |brk=>obtain⟨σ',H',I,q⟩:=h;exact Zmq
 |cont=>obtain⟨σ',H',I,q⟩:=h;exact Zmq
 |ret u=>obtain⟨v,σ',H',I,r,q⟩:=h;exact⟨v,σ',H',I.nJ,r,q⟩
theorem PE.mT{e:Expr}{t:TE}(h:PE X.mT e t):Zt e t:=λpins s σ H Q I hw=>
 gL (UA H Q (I.lK _) hw) (λ_ _ ⟨v,H',I',r,q⟩=>⟨v,H',I'.nJ,r,q⟩) λ_ _ z=>ZiX
theorem PT.mT{e:Expr}{t:TT}(h:PT X.mT e t):PT X e t:=λpins s σ H Q I hw=>
 gL (UA H Q (I.lK _) hw) (λ_ _ ⟨H',I',q⟩=>⟨H',I'.nJ,q⟩) λ_ _ z=>ZiX
theorem jb.mT{st:WU}{t:TS}(h:jb X.mT st t):jb X st t:=λpins s σ H D I hw=>
 gL (UA H D (I.lK _) hw) (λ_ _ q=>q.nJ) λ_ _ z=>ZiX
end
section
variable {X:Cx}{st:Stmt}{rest:WU}{t u:TS}{e:Expr}{te:TE}{pos:Pos}
def vY:TS:=λD σ H=>W0 H
def o9(t u:TS):TS:=λD σ H=>t {D with nx:=u D} σ H
theorem bp:jb X [] vY:=λ_ _ σ H _ I h=>HH ⟨σ,H,I,h⟩
theorem ao(h1:PS X st t)(h2:jb X rest u):jb X (st::rest) (o9 t u):=by
 ext s;refine wpAny_execs_cons (aN (h1 pins s σ H {D with nx:=u D} I h) λf s1 q=>?_);cases f with
 |next=>
  obtain⟨σ',H',I',q⟩:=q;exact h2 pins s1 σ' H' D I' q
 |ret v=>exact q
 |brk=>exact q
 |cont=>exact q
theorem ak(h1:PS X st t):jb X [st] t:=by
 ext s;refine wpAny_execs_cons (aN (h1 pins s σ H D I h) λf s1 q=>?_);cases f with
 |next=>exact HH q
 |ret v=>exact q
 |brk=>exact q
 |cont=>exact q
theorem Inv.quiet{pins:Zx}{σ:St}{H:Hp}{s:Shared}(I:Zg):interactive X.env=false:=by simp[interactive,I.ok.kind]
def wd(te:TE):TS:=λD σ H=>te σ H λ_ H1=>W0 H1
theorem dU(he:XR)(hs:swapsWith e none pos.line X.env=pure false:=by rfl):PS X (.Expr e pos) (wd te):=by intro pins s σ H D I h;exact wpAny_Expr_any (aN Zae λv s1 ⟨x,H1,I1,r1,q1⟩=>⟨σ,H1,I1,q1⟩) I.quiet hs
def vS(te:TE):TS:=λD σ H=>te σ H D.rt
theorem ay(he:XR):PS X (.Return (some e) pos) (vS te):=by intro pins s σ H D I h;exact wpAny_Return_some (aN Zae λv s1 ⟨x,H1,I1,r1,q1⟩=>⟨x,σ,H1,I1,r1,q1⟩)
def zy:TS:=λD _ H=>D.rt .ba H
def v_(c:TT)(t u:TS):TS:=λD σ H=>c σ H λb H1=>if b=true then t D σ H1 else u D σ H1
theorem bg{c:Expr}{a b:WU}{tc:TT}(hc:PT X c tc)(ha:jb X a t)(hb:jb X b u):PS X (.If c a b pos) (v_ tc t u):=by
 ext s;refine wpAny_If ZoS;cases d with
 |true=>exact ZmZ D I1 q1
 |false=>exact Zei D I1 q1
def ag3:TS:=λ_ _ _=>False
theorem ah6{sts:WU}:jb X sts ag3:=λ_ _ _ _ _ _ h=>h.elim
end
abbrev TG:=V->St->Hp->(St->Hp->Prop)->Prop
abbrev sj:=List V->St->Hp->(St->Hp->Prop)->Prop
def PG(X:Cx)(target:Expr)(t:TG):Prop:=
 ∀(pins:Zx) (s:Shared) (σ:St) (H:Hp) (v:V) (u:Value) (Q:ZnG),Zg->XQ->t v σ H Q->
  wpAny Yf X.A (assign target X.env u) ZqB X.xe s
def Ca(X:Cx)(ts:Ya)(t:sj):Prop:=
 ∀(pins:Zx) (s:Shared) (σ:St) (H:Hp) (vs:Ze) (us:Zp) (Q:ZnG),Zg->ZaI->t vs σ H Q->
  wpAny Yf X.A (assignInOrder ((assignEach ts X.env).map ZZ) us) ZqB X.xe s
abbrev BO:=V->V->V->Hp->(Hp->Prop)->Prop
def OQ(X:Cx)(t:BO):Prop:=
 ∀(pins:Zx) (s:Shared) (σ:St) (H:Hp) (o i v:V) (ov iv u:Value) (Q:Zgf),Zg->RelV o ov->RelV i iv->XQ->t o i v H Q->
  wpAny Yf X.A (setItem ov iv u) (λ_ s'=>∃H',VQ/\Q H') X.xe s
abbrev vc:=V->V->Hp->VK->Prop
def B_(X:Cx)(op:Operator)(t:vc):Prop:=
 ∀(pins:Zx) (s:Shared) (σ:St) (H:Hp) (x y:V) (v u:Value) (Q:VK),Zg->WY->XC->t x y H Q->
  wpAny Yf X.A (inplaceOp op v u) YB X.xe s
section
variable {X:Cx}{pos:Pos}
def lD(i:Nat):TG:=λv σ H Q=>Q (σ.set i VS) H
theorem aip{i:Nat}{x:Str}(hN:X.N.Nodup)(hi:ZcQ)(hx:Zal)(hf:X.fn x=true∨X.env.scope.names.lookup x=some .local :=by first |exact .inl rfl|exact .inr rfl|assumption):PG X Um (lD i):=by intro pins s σ H v u Q I r h;exact wpAny_assign_Name (Ih I hN hi hx r (λs' I'=>⟨_,H,I',h⟩) hf)
def yA:sj:=λvs σ H Q=>vs=[]/\Q σ H
def yB(t:TG)(u:sj):sj:=λvs σ H Q=>∃v r,vs=v::r/\t v σ H fun σ' H'=>u r σ' H' Q
theorem iZ:Ca X [] yA:=by
 intro pins s σ H vs us Q I r h;obtain⟨e,h⟩:=h;subst e;cases r
 exact assignInOrder_nil ⟨σ,H,I,h⟩
theorem dn{e:Expr}{es:Ya}{t:TG}{u:sj}(h1:PG X e t)(h2:Ca X es u)
  (hs:(assignEach Za2 X.env).map ZZ=assign e X.env::(Zfk X.env).map ZZ:=by rfl):Ca X Za2 (yB t u):=by
 intro pins s σ H vs us Q I r h;obtain⟨v,vr,e1,h⟩:=h;subst e1;cases r with
 |cons r rr=>
  rw[hs];refine assignInOrder_cons (aN (h1 pins s σ H _ _ _ I r h) λ_ s1 ⟨σ1,H1,I1,q1⟩=>?_);exact h2 pins s1 σ1 H1 _ _ Q I1 rr q1
def uR(K:PySem.W.Frag)(n:Nat)(t:sj):TG:=λv σ H Q=>∃a xs,v=.ref a/\VJ/\xs.length=n/\t xs σ H Q
theorem aio{es:Ya}{k:Nat}{t:sj}{n:Nat}(hc:XA)(h:Ca X es t)
  (hn:(Zfk X.env).length =n:=by rfl) (aT:(Zfk X.env).findIdx? Zh=none:=by rfl):PG X (.Tuple es k pos) (uR X.K n t):=by
 intro pins s σ H v u Q I r hw;obtain⟨a,xs,e1,hq,hl,hw⟩:=hw;subst e1;cases r
 obtain⟨its,rv,ht,hz⟩:=Zfc;refine assign_Tuple_tuple YR ht (by simp[hn,←hl,rv.length]) aT λh' hx=>?_;have I1:ZU H {s with heap:=h'}:=I.kept (t':=s.toks) λb o e=>hx b o (eB YL) e;exact h pins _ σ H xs _ Q I1 (by simpa using rv) hw
def yz(to ti:TE)(t:BO):TG:=λv σ H Q=>to σ H λo H1=>ti σ H1 λi H2=>t o i v H2 λH3=>Q σ H3
theorem Ki{o i:Expr}{to ti:TE}{t:BO}(ho:UU)(hi:Zt i ti)(hs:OQ X t)
  (ha:∀v,assign (Zar pos) X.env v=(do
   let ov←holding [v] Uo;let iv←holding [v,ov] (eval i X.env)
   standAt pos
   holding [v,ov,iv] (setItem ov iv v)
   release [v,ov,iv] []):=by intro _;rfl):PG X (.Subscript o i pos) (yz to ti t):=by
 intro pins s σ H v u Q I r h;rw[ha];refine aj (nH (aN Zcq λov s1 ⟨x,H1,I1,r1,q1⟩=>?_));refine aj (nH (aN Zg7 λiv s2 ⟨y,H2,I2,r2,q2⟩=>?_));refine aj (Cv (aj (nH (aN (hs pins s2 σ H2 x y v ov iv u _ I2 r1 r2 r q2) λ_ s3 ⟨H3,I3,q3⟩=>?_))));exact wpAny_release ⟨σ,H3,I3,q3⟩
def nO(te:TE)(g:TG):TS:=λD σ H=>te σ H λx H1=>g x σ H1 D.nx
theorem Kf{tg e:Expr}{te:TE}{g:TG}(he:XR)(hg:PG X tg g)(hs:swapsWithSole [tg] e pos.line X.env=pure false:=by rfl)(hw:swappedStores [tg] e X.env=pure none:=by rfl)
  (h1:(assignEach [tg] X.env).map ZZ=[assign tg X.env]:=by rfl):PS X (.Assign [tg] e pos) (nO te g):=by
 ext s;refine wpAny_Assign_stores ZpJ hs hw;rw[h1];exact aN (hg pins s1 σ H1 x v _ I1 r1 q1) λ_ s2 q=>q
theorem ah9{i:Nat}{x:Str}{e:Expr}{te:TE}{pos':Pos}(hN:X.N.Nodup)(hi:ZcQ)(hx:Zal)(he:XR)(hs:ZpB X.env=pure false:=by rfl)(hf:X.fn x=true∨X.env.scope.names.lookup x=some .local :=by first |exact .inl rfl|exact .inr rfl|assumption):
  PS X Zrb (nO te (lD i)):=by
 ext s;refine wpAny_Assign_Name (aN Zae λv s1 ⟨y,H1,I1,r1,q1⟩=>?_) hs;exact Ih I1 hN hi hx r1 (λs2 I2=>⟨_,H1,I2,q1⟩) hf
def sQ(i:Nat)(te:TE)(ti:vc):TS:=λD σ H=>∃x,σ[i]? =some (some x)/\te σ H λy H1=>ti x y H1 λz H2=>D.nx (σ.set i (some z)) H2
theorem aic{i:Nat}{x:Str}{e:Expr}{te:TE}{op:Operator}{ti:vc}{pos':Pos}(hN:X.N.Nodup)(hi:ZcQ)(hx:Zal)(he:XR)(ho:B_ X op ti)(hf:X.fn x=true∨X.env.scope.names.lookup x=some .local :=by first |exact .inl rfl|exact .inr rfl|assumption):
  PS X Zp5 (sQ i te ti):=by
 ext s;obtain⟨v,e1,h⟩:=h;ext aw;have vis:Zfb x:=by rcases hx with k|k;exact ZdS;exact .inr ZdS
 obtain⟨u,r,l⟩:=hl i x v hi e1 vis;refine wpAny_AugAssign_Name ?_;have go:Yx Yz (λw s₂=>Yx (inplaceOp op u w) (λr s₃=>Yx (storeName X.env x r) (λ_=>Zfs .next) X.xe s₃) X.xe s₂) X.xe s:=by refine aN Zae λw s1 ⟨y,H1,I1,r1,q1⟩=>?_;refine aN (Zia v y u w _ I1 r r1 q1) λz s2 ⟨zv,H2,I2,r2,q2⟩=>?_;exact Ih I2 hN hi hx r2 (λs3 I3=>⟨_,H2,I3,q2⟩) hf
 rcases l with⟨hk,hm⟩|⟨hk,c,hc,hcell⟩
 ·exact PY I.ok.kind hk hn hm go
 ·rcases hk with hk|hk
  ·exact ZpO go
  ·rcases hx with k|k
   ·ext ca
   ·ext ca
def wo(to ti te:TE)(CN:Zlo)(CM:vc)(CI:BO):TS:=λD σ H=>to σ H λo H1=>ti σ H1 λi H2=>CN o i H2 λx H3=>te σ H3 λy H4=>CM x y H4 λz H5=>CI o i z H5 λH6=>W0 H6
def aeM(X:Cx)(t:Zlo):Prop:=
 ∀(pins:Zx) (s:Shared) (σ:St) (H:Hp) (o i:V) (ov iv:Value) (Q:VK),Zg->RelV o ov->RelV i iv->t o i H Q->
  wpAny Yf X.A (getItem ov iv) YB X.xe s
theorem aib{o i e:Expr}{to ti te:TE}{CN:Zlo}{CM:vc}{CI:BO}{op:Operator}{fQ:Pos}(ho:UU)(hi:Zt i ti)(hg:aeM X CN)(he:XR)(hp:B_ X op CM)(hs:OQ X CI)
  (ha:∀ov iv new,augStore i ov iv new=(do holding [new,ov,iv] (setItem ov iv new);release [new,ov,iv] [];pure .next):=by intros;rfl):PS X (.AugAssign (Zar fQ) op e pos) (wo to ti te CN CM CI):=by
 ext s;refine wpAny_AugAssign_SubscriptAny (aN Zcq λov s1 ⟨x1,H1,I1,r1,q1⟩=>?_) ha;refine aN Zg7 λiv s2 ⟨x2,H2,I2,r2,q2⟩=>?_;refine aN (hg pins s2 σ H2 x1 x2 ov iv _ I2 r1 r2 q2) λold s3 ⟨x3,H3,I3,r3,q3⟩=>?_;refine aN (he pins s3 σ H3 _ I3 q3) λv s4 ⟨x4,H4,I4,r4,q4⟩=>?_;refine aN (hp pins s4 σ H4 x3 x4 old v _ I4 r3 r4 q4) λnew s5 ⟨x5,H5,I5,r5,q5⟩=>?_;exact aN (hs pins s5 σ H5 x1 x2 x5 ov iv new _ I5 r1 r2 r5 q5) λ_ s6 ⟨H6,I6,q6⟩=>⟨σ,H6,I6,q6⟩
def ud(f:Znh):vc:=λx y H Q=>∃i j,x=.int i/\y=.int j/\Q (.int (f i j)) H
theorem ab6:B_ X .Add (ud λi j=>i+j):=by intro pins s σ H x y v u Q I r1 r2 h;obtain⟨i,j,e1,e2,q⟩:=h;subst e1;subst e2;obtain⟨t,rfl⟩:=r1;obtain⟨t',rfl⟩:=r2;exact iadd_int Zcv
theorem al7:B_ X .Sub (ud λi j=>i-j):=by intro pins s σ H x y v u Q I r1 r2 h;obtain⟨i,j,e1,e2,q⟩:=h;subst e1;subst e2;obtain⟨t,rfl⟩:=r1;obtain⟨t',rfl⟩:=r2;exact isub_int Zcv
end
section
variable {X:Cx}{pos:Pos}
def Qj(c:TT)(tb:TS):TS:=λD σ H=>∃W:Nat->St->Hp->Prop,(∃m,W m σ H)/\∀m σ H,W m σ H->
 c σ H λb H1=>if b=true then∃N:St->Hp->Prop,(∀σ' H',N σ' H'->∃m',m'<m/\W m' σ' H')/\tb {D with nx:=N,ct:=N,bk:=D.nx} σ H1 else W0 H1
theorem Ke{c:Expr}{body:WU}{tc:TT}{tb:TS}(hp:Zsh)(hc:PT X c tc)(hb:jb X body tb):PS X (.While c body [] pos) (Qj tc tb):=by
 ext s;obtain⟨W,⟨m0,w0⟩,turn⟩:=h;refine wpAny_While (codeAny_whileLoop (λn s'=>∃σ' H',Zbi/\W n σ' H') ?_ m0 ⟨σ,H,I,w0⟩);rintro n s1 ⟨σ1,H1,I1,w1⟩;refine vI hp (aN (hc pins s1 σ1 H1 _ I1 (turn n σ1 H1 w1)) λb s2 ⟨H2,I2,q2⟩=>?_);cases b with
 |true=>
  obtain⟨N,hN,q2⟩:=q2;rw[af rfl];refine vI hp (aN (hb pins s2 σ1 H2 _ I2 q2) λf s3 q3=>?_);cases f with
  |next=>
   ext bU
  |cont=>
   ext bU
  |brk=>exact q3
  |ret v=>exact q3
 |false=>
  rw[ae eh];exact HH ⟨σ1,H2,I2,q2⟩
end
structure It where
 go:Nat->Hp->Prop
 oX:Nat->Hp->V->Hp->Prop
 stop:Nat->Hp->Prop
def mF(X:Cx)(pins:Zx)(H:Hp)(b:Addr):Prop:=
 H b=none/\b≠X.env.locals/\b∉X.fs/\(b∈X.ex∨X.gM.heap.objs.size<=b)/\(∀x c,X.env.cells.lookup x=some c->c≠b)/\∀p∈X.pn++pins,p.1≠b
theorem Inv.qe{X:Cx}{pins:Zx}{σ:St}{H H':Hp}{s:Shared}{b:Addr}(I:Zg)(hb:s.heap.objs.size<=b)(hn:H' b=none):Vp H' b:=by
 refine⟨hn,oO (hX I.lt hb),I.akE hb,.inr (cq I.sz hb),λx c e z=>?_,λp hp z=>?_⟩
 ·obtain⟨v,q⟩:=ZfV e;exact absurd (hX q.lt (by rw[z];exact hb)) W5
 ·exact absurd (hX (bT (I.pin p hp).1) (by rw[z];exact hb)) W5
structure Turn(P:Program)(w:World)(K:PySem.W.Frag)(tg:Expr)(J:It)(fp:Zz)(it:Addr)(tn:ZhS):Prop where
 mem:it∈fp
 obj:∀i h,tn i h->∀b∈fp,∃o,h.get? b=some o/\∀v,o.data≠.cell v
 keep:∀i h h',tn i h->(∀b∈fp,∀o,h.get? b=some o->h'.get? b=some o)->tn i h'
 item:∀(X:Cx),X.prog=P->X.w=w->X.K=K->X.calm=true->∀(i:Nat) (pins:Zx) (s:Shared) (σ:St) (H:Hp) (E:Zu),Zg->(∀b∈fp,Vp H b)->tn i s.heap->U2 H->
  wpAny Zdf X.A (pyNext XJ) (λr s1=>∃u,r=some u/\
   wpAny (model P w) X.A (letOwnedTupleGo tg (.ref it) u) (λ_ s2=>∃x H',Inv X pins σ H' s2/\RelV x u/\J.oX i H x H'/\tn (i+1) s2.heap/\∀b∈fp,H' b=none) E s1) E s
 done:∀(X:Cx),X.prog=P->X.w=w->X.K=K->X.calm=true->∀(i:Nat) (pins:Zx) (s:Shared) (σ:St) (H:Hp) (E:Zu),Zg->(∀b∈fp,Vp H b)->tn i s.heap->ZdF H->
  wpAny Zdf X.A (pyNext XJ) (λr s1=>r=none/\ZU H s1) E s
 self:∀(A:Around) (i:Nat) (s:Shared) (Q:Zu) (E:Zu),tn i s.heap->Q XJ s->wpAny Zdf A (pyIter XJ) Q E s
abbrev TI:=St->Hp->(It->Hp->Prop)->Prop
def OR(X:Cx)(pins:Zx)(σ:St)(tg:Expr)(R:Ziu)(Ld:Value)(s2:Shared):Prop:=
 ∃(it:Addr) (fp:Zz) (tn:ZhS) (J:It) (H':Hp),Ld=.ref it/\ZU H' s2/\Turn X.prog X.w X.K tg J fp it tn/\tn 0 s2.heap/\(∀b∈fp,Vp H' b)/\R J H'
def PI(X:Cx)(tg iter:Expr)(wi:TI):Prop:=
 ∀(pins:Zx) (s:Shared) (σ:St) (H:Hp) (R:Ziu),Zg->wi σ H R->
  wpAny Yf X.A Zmk (λv s1=>Yx (pyIter v) ZlR X.xe s1) X.xe s
theorem yj{M:Model}{A:Around}{E:Zu}{s:Shared}{tg:Expr}{it:Addr}{u:Value}{o:Obj}{n:String}{vs:YS}{Q:Zah}(ho:s.heap.get? it=some o)(hc:o.cls=.type n)(hd:o.data=.fields vs)
    (hn:["enumerate","zip","dict_itemiterator","dict_reverseitemiterator","odict_iterator","itertools.zip_longest","itertools.pairwise"].contains n=false) (hQ:Q () s):Vm (letOwnedTupleGo tg XJ u) Q E s:=by
  unfold letOwnedTupleGo;cases tg<;>first
    | exact aL hQ
    | (cases u<;>first
        | exact aL hQ
        | (refine aj (wpAny_load ho ?_)
           rw[hc,hd];show wpAny M A (if(["enumerate","zip","dict_itemiterator","dict_reverseitemiterator","odict_iterator","itertools.zip_longest","itertools.pairwise"].contains n&&vs[0]? ==some (rawInt _))=true then _ else _) Q E s;rw[ae (by intro h;rw[hn,gK]at h;cases h)];exact aL hQ))
def vy(K:PySem.W.Frag)(a:Addr):It:=
 ⟨λi H=>∃xs x,YO/\xs[i]? =some x,λi H x H'=>H'=H/\∀xs,YO->xs[i]? =some x,λi H=>∃xs,YO/\xs.length<=i⟩
def Pj(K:PySem.W.Frag)(a:Addr):It:=
 ⟨λi H=>∃xs x,VJ/\xs[i]? =some x,λi H x H'=>H'=H/\∀xs,VJ->xs[i]? =some x,λi H=>∃xs,VJ/\xs.length<=i⟩
def Hi(lo:Int)(n:Nat):It:=⟨λi _=>i<n,λi H x H'=>H'=H/\x=.int (lo+i),λi _=>n<=i⟩
theorem agE{P:Program}{w:World}{K:PySem.W.Frag}{tg:Expr}(a it:Addr):Zfj ZdD [it] it (λi h=>Ze3 a i) where
 mem:=by simp
 obj:=λi h st b hb=>by
  have e:b=it:=by simpa using hb
  ext aQ
 keep:=λi h h' st k=>st.at λo e=>UY o e
 item:=by intro X hP hw hK hc i pins s σ H E I hf st hg;subst hP hw hK;obtain⟨xs,x,hq,hx⟩:=hg;obtain⟨its,rv,p,hz⟩:=UL;obtain⟨u,hu,ru⟩:=Zgn;obtain⟨f0,f1,f2,f3,f4,f5⟩:=WR;refine wpAny_pyNext_list_item st p.isList (x:=u) ZhE λh' gy sb=>?_;have I1:ZU H {s with heap:=h'}:=Zcn Zkd f0 f1 f3 f4 f5;obtain⟨o,e,c,d⟩:=id gy;exact⟨u,rfl,ZgZ d Zj ⟨x,H,I1,ru,⟨rfl,λys hy=>ZsW⟩,gy,λb hb=>(hf b hb).1⟩⟩
 done:=by intro X hP hw hK hc i pins s σ H E I hf st hg;subst hP hw hK;obtain⟨xs,hq,hx⟩:=hg;obtain⟨its,rv,p,hz⟩:=UL;obtain⟨f0,f1,f2,f3,f4,f5⟩:=WR;have hl:=rv.length;exact wpAny_pyNext_list_end YR st p.isList (by simp;omega) λh' eb=>Zd0
 self:=λ_ _ _ _ _ st h=>wpAny_pyIter_listiter st h
theorem agC{P:Program}{w:World}{K:PySem.W.Frag}{tg:Expr}(a it:Addr):Zfj (Pj K a) [it] it (λi h=>h.IsTupleIter it a i) where
 mem:=by simp
 obj:=λi h st b hb=>by
  have e:b=it:=by simpa using hb
  ext aQ
 keep:=λi h h' st k=>st.at λo e=>UY o e
 item:=by intro X hP hw hK hc i pins s σ H E I hf st hg;subst hP hw hK;obtain⟨xs,x,hq,hx⟩:=hg;obtain⟨its,rv,p,hz⟩:=Zfc;obtain⟨u,hu,ru⟩:=Zgn;obtain⟨f0,f1,f2,f3,f4,f5⟩:=WR;refine wpAny_pyNext_tuple_item st Zpn (x:=u) ZhE λh' gy sb=>?_;have I1:ZU H {s with heap:=h'}:=Zcn Zkd f0 f1 f3 f4 f5;obtain⟨o,e,c,d⟩:=id gy;exact⟨u,rfl,ZgZ d Zj ⟨x,H,I1,ru,⟨rfl,λys hy=>by rw[I.agJ hy hq];exact hx⟩,gy,λb hb=>(hf b hb).1⟩⟩
 done:=by intro X hP hw hK hc i pins s σ H E I hf st hg;subst hP hw hK;obtain⟨xs,hq,hx⟩:=hg;obtain⟨its,rv,p,hz⟩:=Zfc;obtain⟨f0,f1,f2,f3,f4,f5⟩:=WR;have hl:=rv.length;exact wpAny_pyNext_tuple_end YR st Zpn (by simp;omega) λh' eb=>Zd0
 self:=λ_ _ _ _ _ st h=>wpAny_pyIter_tupleiter st h
theorem agD{P:Program}{w:World}{K:PySem.W.Frag}{tg:Expr}(it:Addr)(lo:Int)(n:Nat):Zfj (Hi lo n) [it] it (λi h=>IsRangeIter h it (lo+(i:Nat)*1) ((n:Int)-(i:Nat)) 1) where
 mem:=by simp
 obj:=λi h st b hb=>by
  have e:b=it:=by simpa using hb
  subst e;exact⟨_,st,λv z=>by have z':Data.fields _=Data.cell v:=z;cases z'⟩
 keep:=λi h h' st k=>UY _ st
 item:=by intro X hP hw hK hc i pins s σ H E I hf st hg;subst hP hw hK;obtain⟨f0,f1,f2,f3,f4,f5⟩:=WR;have W:=Walks.range (prog:=X.prog) (w:=X.w) YR it lo 1 n;refine ZnH hg st λv h' tk hv gy kk=>?_;obtain⟨t,rfl⟩:=hv;have I1:ZU H {s with heap:=h',toks:=tk}:=Zow;refine⟨_,rfl,Zq0 (n:="range_iterator") gy rfl rfl (by decide) ⟨.int (lo+i),H,I1,⟨t,?_⟩,Uv,gy,λb hb=>(hf b hb).1⟩⟩;rw[Int.mul_one]
 done:=by intro X hP hw hK hc i pins s σ H E I hf st hg;subst hP hw hK;obtain⟨f0,f1,f2,f3,f4,f5⟩:=WR;exact wpAny_pyNext_range_end YR st (by have:n<=i:=hg;omega) λh' eb=>Zd0
 self:=λ_ _ _ _ _ st h=>wpAny_pyIter_rangeiter st h
end L2
namespace L2
open PySem PySem.Spec PyProof.Rows
section
variable {X:Cx}{tg:Expr}
def ui(K:PySem.W.Frag)(tl:TE):TI:=fun σ H R=>tl σ H λx H1=>∃a,x=.ref a/\(∃xs,Ux)/\R ZdD H1
def uh(K:PySem.W.Frag)(tl:TE):TI:=fun σ H R=>tl σ H λx H1=>∃a,x=.ref a/\(∃xs,bM K H1 a xs)/\R (Pj K a) H1
theorem ail{l:Expr}{tl:TE}(hl:Zt l tl):Zcc l (ui X.K tl):=by
 ext w;refine aN ZtJ λv s1 ⟨x,H1,I1,r1,q1⟩=>?_;obtain⟨a,e,⟨xs,hq⟩,q⟩:=q1;subst e;cases r1
 obtain⟨its,rv,p,hz⟩:=I1.list hq;refine qB p.isList ?_;refine⟨s1.heap.objs.size,[s1.heap.objs.size],_,_,H1,rfl,I1.kept (t':=s1.toks) λb o e=>XU,agE a _,Zcu,λb hb=>?_,q⟩;have e:b=s1.heap.objs.size:=by simpa using hb
 ext bm
theorem aik{l:Expr}{tl:TE}(hl:Zt l tl):Zcc l (uh X.K tl):=by
 ext w;refine aN ZtJ λv s1 ⟨x,H1,I1,r1,q1⟩=>?_;obtain⟨a,e,⟨xs,hq⟩,q⟩:=q1;subst e;cases r1
 obtain⟨its,rv,p,hz⟩:=I1.tuple hq;refine wpAny_pyIter_tuple (show s1.heap.IsTuple a its.toArray from p) ?_;refine⟨s1.heap.objs.size,[s1.heap.objs.size],_,_,H1,rfl,I1.kept (t':=s1.toks) λb o e=>XU,agC a _,Zcu,λb hb=>?_,q⟩;have e:b=s1.heap.objs.size:=by simpa using hb
 ext bm
theorem ahX{pins:Zx}{σ:St}{H:Hp}{s:Shared}{R:Ziu}{E:Zu}{lo hi:Int}{t u v:Tok}{tk:Nat}(I:Zg)(h1: -(2 ^ 62)<=lo)(h2:lo<2 ^ 62)(h3: -(2 ^ 62)<=hi)(h4:hi<2 ^ 62)
  (q:R (Hi lo (hi-lo).toNat) H):Yx (pyIter Ys) ZlR E {s with heap:=s.heap.push {cls:=.type "range",data:=.fields #[.int lo t,.int hi u,.int 1 v]},toks:=tk}:=by
 refine wpAny_pyIter_range (IsRange.new ..) (small_one h1 h2 h3 h4) ?_;have I1:ZU H {s with heap:=s.heap.push {cls:=.type "range",data:=.fields #[.int lo t,.int hi u,.int 1 v]},toks:=tk}:=I.kept λb o e=>XU;refine⟨(s.heap.push {cls:=ZiG,data:=.fields #[.int lo t,.int hi u,Vv v]}).objs.size,[(s.heap.push {cls:=ZiG,data:=.fields #[.int lo t,.int hi u,Vv v]}).objs.size],_,_,H,rfl,
  I1.kept (t':=tk) λb o e=>cV _ e,agD _ lo (hi-lo).toNat,?_,λb hb=>?_,q⟩
 ·have e1:lo+((0 :Nat):Int)*1=lo:=by simp
  have e2:(((hi-lo).toNat :Nat):Int)-((0 :Nat):Int)=Builtin.Range.rangeSize lo hi 1:=by rw[rangeSize_one];split<;>omega
  show IsRangeIter _ _ (lo+((0 :Nat):Int)*1) ((((hi-lo).toNat :Nat):Int)-((0 :Nat):Int)) 1;rw[e1,e2];exact dj _ rfl
 ·have e:b=(s.heap.push {cls:=ZiG,data:=.fields #[.int lo t,.int hi u,Vv v]}).objs.size :=by simpa using hb
  ext bm
def xB(ta:TA):TI:=fun σ H R=>Xc H λvs H1=>∃j:Int,vs=[.int j]/\ -(2 ^ 62)<=j/\j<2 ^ 62/\R (Hi 0 j.toNat) H1
theorem aao{a:Expr}{ta:TA}{p pos:Pos}(hg:Gl X "range")(hm:X.mg "range"=none)(ha:PA X [a] ta)(hs:starEach [a] X.env=[(false,Zix)]:=by rfl):Zcc (.Call (.Name "range" p) [a] [] pos) (xB ta):=by
 ext w;refine Call_ (Zdg boot_range (ZjG hs rfl));obtain⟨j,e,q1,q2,q⟩:=q1;subst e;cases r1 with
 |cons r rr=>
  cases rr
  ext A;exact call_range_1 (ahX I1 Zb Zb q1 q2 (by simpa using q))
def Ql(wi:TI)(g:TG)(tb:TS):TS:=λD σ H=>wi σ H λJ H1=>∃W:Nat->Nat->St->Hp->Prop,(∃m,W 0 m σ H1)/\∀i m σ H,W i m σ H->
 (ZdF H/\W0 H)∨(U2 H/\∃N:St->Hp->Prop,(∀σ' H',N σ' H'->∃m',m'<m/\W YU m' σ' H')/\∀x H',Zaz->g x σ H' fun σ2 H2=>tb {D with nx:=N,ct:=N,bk:=D.nx} σ2 H2)
def Ag(fp:Zz)(h:Heap):Zx:=fp.filterMap λb=>(h.get? b).map λo=>(b,o)
theorem KU{fp:Zz}{h:Heap}{b:Addr}{o:Obj}(hb:b∈fp)(e:Zns):(b,o)∈Ag fp h:=G9.mpr ⟨b,hb,Xo⟩
theorem akv{fp:Zz}{h:Heap}{p:ZfL}(hp:p∈Ag fp h):p.1∈fp/\h.get? p.1=some p.2:=by
 obtain⟨b,hb,e⟩:=G9.mp hp;cases q:h.get? b with
 |none=>rw[q]at e;cases e
 |some o=>
  rw[q]at e;have e':(b,o)=p:=bY e;subst e';exact⟨hb,q⟩
theorem Inv.pinned{pins:Zx}{σ:St}{H:Hp}{s:Shared}{fp:Zz}(I:Zg)(hf:∀b∈fp,Vp H b)(ho:∀b∈fp,∃o,s.heap.get? b=some o/\∀v,o.data≠.cell v):Inv X (pins++Ag fp s.heap) σ H s:=
 I.aal λp hp=>(b8.mp hp).elim (λz=>I.pin p (je _ z)) λz=>by obtain⟨hb,e⟩:=akv z;obtain⟨f0,f1,f2,_⟩:=hf p.1 hb;obtain⟨o,e',d⟩:=ho p.1 hb;rw[e]at e';cases e';exact⟨e,f0,f1,f2,d⟩
theorem Inv.CF{pins pl:Zx}{σ:St}{H:Hp}{s:Shared}(I:Inv X (pins++pl) σ H s):Zg:=I.aal λp hp=>I.pin p (je _ (my _ hp))
theorem dN{iter:Expr}{body:WU}{wi:TI}{g:TG}{tb:TS}{pos:Pos}(hp:Zsh)(hc:XA)(hi:Ze0)(hg:PG X tg g)(hb:jb X body tb)
  (hs:∀x,Zel x=pure x:=by intro _;rfl):PS X (.For tg iter body [] pos) (Ql wi g tb):=by
 ext s;refine wpAny_For (aN Zld λv s1 h1=>aN h1 λLd s2 h2=>?_) hs;obtain⟨it,fp,tn,J,H2,e,I2,T,CT,f2,W,⟨m0,w0⟩,turn⟩:=h2;subst e;have sU:∀{H':Hp},(∀b∈fp,H' b=none)->∀b∈fp,Vp H' b:=λhn b hb=>⟨hn b hb,(f2 b hb).2⟩;refine codeAny_forLoop_any (λn s'=>∃i σ' H',Zbi/\tn i s'.heap/\(∀b∈fp,H' b=none)/\W i n σ' H') ?_ m0 ⟨0,σ,H2,I2,CT,λb hb=>(f2 b hb).1,w0⟩;rintro n s3 ⟨i,σ3,H3,I3,CS,fr3,w3⟩;rcases turn i n σ3 H3 w3 with⟨stop,qn⟩|⟨go,N,hN,step⟩
 ·refine vI hp (aN (T.done X rfl rfl rfl hc i pins s3 σ3 H3 X.xe I3 (sU fr3) CS stop) λr s4 ⟨hr,I4⟩=>?_);subst hr;exact HH ⟨σ3,H3,I4,qn⟩
 ·refine vI hp (aN (T.item X rfl rfl rfl hc i pins s3 σ3 H3 X.xe I3 (sU fr3) CS go) λr s4 ⟨u,hr,h4⟩=>?_);subst hr;refine vI hp (aN h4 λ_ s5 ⟨x,H5,I5,r5,y5,st5,fr5⟩=>?_);have I5':=I5.pinned (sU fr5) (Zgi st5);refine vI hp (aN (hg _ s5 σ3 H5 x u _ I5' r5 (step x H5 y5)) λ_ s6 ⟨σ6,H6,I6,q6⟩=>?_);refine vI hp (aN (hb _ s6 σ6 H6 _ I6 q6) λf s7 q7=>?_);have again:∀{σ7:St} {H7:Hp},Inv X (pins++Ag fp s5.heap) σ7 H7 s7->N σ7 H7->∃m,m<n/\∃i σ' H',Inv X pins σ' H' s7/\tn i s7.heap/\(∀b∈fp,H' b=none)/\W i m σ' H':=λ{σ7 H7} I7 n7=>by obtain⟨m',hm,w7⟩:=hN σ7 H7 n7;refine⟨m',hm,i+1,σ7,H7,I7.CF,ZiY st5 λb hb o e=>(I7.pin (b,o) Zk4).1,λb hb=>?_,w7⟩;obtain⟨o,e,d⟩:=Zgi st5 b hb;exact(I7.pin (b,o) Zk4).2.1
  cases f with
  |next=>obtain⟨σ7,H7,I7,n7⟩:=q7;exact again I7 n7
  |cont=>obtain⟨σ7,H7,I7,n7⟩:=q7;exact again I7 n7
  |brk=>obtain⟨σ7,H7,I7,q7⟩:=q7;exact⟨σ7,H7,I7.CF,q7⟩
  |ret v=>obtain⟨x7,σ7,H7,I7,r7,q7⟩:=q7;exact⟨x7,σ7,H7,I7.CF,r7,q7⟩
end
theorem HP{c:TT}{tb:TS}{D:Ends}{σ:St}{H:Hp}(Pv:ZnG)(μ:St->Hp->Nat)(h0:Pv σ H)
  (hs:∀σ H,Pv σ H->c σ H λb H1=>if b=true then tb {D with nx:=fun σ' H'=>Pv σ' H'/\μ σ' H'<μ σ H,ct:=fun σ' H'=>Pv σ' H'/\μ σ' H'<μ σ H,bk:=D.nx} σ H1 else W0 H1)
  (mono:∀σ H Q Q',(∀b H1,Q b H1->Q' b H1)->c σ H Q->c σ H Q'):Qj c tb D σ H:=by
 refine⟨λm σ H=>m=μ σ H/\Pv σ H,⟨_,rfl,h0⟩,?_⟩;rintro m σ H ⟨rfl,p⟩;refine mono σ H _ _ (λb H1 q=>?_) (hs σ H p);cases b with
 |true=>exact⟨_,fun σ' H' ⟨p',l⟩=>⟨_,l,rfl,p'⟩,q⟩
 |false=>exact q
end L2
namespace L2
open PySem PySem.Spec PyProof.Rows
abbrev R2:=V->V->Hp->VK->Prop
def de(X:Cx)(f:Zeq)(r:R2):Prop:=
 ∀(pins:Zx) (s:Shared) (σ:St) (H:Hp) (x y:V) (v u:Value) (Q:VK),Zg->WY->XC->r x y H Q->
  wpAny Yf X.A (f v u) YB X.xe s
def Ov(X:Cx)(f:Value->Sem Value)(r:Zmg):Prop:=
 ∀(pins:Zx) (s:Shared) (σ:St) (H:Hp) (x:V) (v:Value) (Q:VK),Zg->WY->r x H Q->
  wpAny Yf X.A (f v) YB X.xe s
def gJ(X:Cx)(f:Value)(r:ZlG):Prop:=
 ∀(pins:Zx) (s:Shared) (σ:St) (H:Hp) (xs:Ze) (us:Zp) (Q:VK),Zg->WD->r xs H Q->
  wpAny Yf X.A (call f us) YB X.xe s
def asd(X:Cx)(r:V->Hp->(Bool->Hp->Prop)->Prop):Prop:=
 ∀(pins:Zx) (s:Shared) (σ:St) (H:Hp) (x:V) (v:Value) (Q:ZeW),Zg->WY->r x H Q->
  wpAny Yf X.A (truthy v) Zh1 X.xe s
def nM(r:R2)(ta tb:TE):TE:=fun σ H Q=>Xc H λx H1=>tb σ H1 λy H2=>r x y H2 Q
def vO(r:Zmg)(ta:TE):TE:=fun σ H Q=>Xc H λx H1=>r x H1 Q
def rI(C:Int->Int->Prop)(g:Int->Int->V):R2:=λx y H Q=>∃i j,x=.int i/\y=.int j/\C i j/\Q ZdX H
def jT(g:Int->Int->V):R2:=λx y H Q=>∃i j,x=.int i/\y=.int j/\Q ZdX H
def rU(g:Int->V):V->Hp->VK->Prop:=λx H Q=>∃i,x=.int i/\Q (g i) H
section
variable {X:Cx}{a b c:Expr}{ta tb tc:TE}{pos:Pos}
theorem Oh(ha:We)(hb:UT){pins:Zx}{s:Shared}{σ:St}{H:Hp}{R:V->V->Hp->Prop}(I:Zg)
  (h:ZpX) {Q:Zu} {f:Zeq}
  (hf:Zoq):
  wpAny Yf X.A Zix Zop X.xe s:=by
 refine aN VA λv s1 ⟨x,H1,I1,r1,q1⟩=>?_;refine aN Zfd λu s2 ⟨y,H2,I2,r2,q2⟩=>?_;exact Zsp
theorem cR{op:Operator}{r:R2}(ho:de X (binaryOp op) r)(ha:We)(hb:UT):Zt (.BinOp a op b pos) ZiR:=by intro pins s σ H Q I h;exact wpAny_BinOp Zon
theorem ais{op:UnaryOp}{r:Zmg}(ho:Ov X (unaryOp op) r)(ha:We):Zt (.UnaryOp op a pos) (vO r ta):=by intro pins s σ H Q I h;exact UnaryOp_ (aN VA λv s1 ⟨x,H1,I1,r1,q1⟩=>Zia x v Q I1 r1 q1)
theorem opI{f:Zeq}{C:Int->Int->Prop}{g:Znh}
  (rule:∀(i j:Int) (t u:Tok) (s:Shared) (Q:Zu) (E:Zu),C i j->Q (Zc4 s.toks) {s with toks:=s.toks+1}->Zkj):
  de X f (rI C λi j=>Zc4):=by
 ext m;obtain⟨i,j,rfl,rfl,hc,q⟩:=h;ext h;ext M;exact Zl1 hc ⟨Zc4,H,YJ,Zs,q⟩
theorem Eb{f:Zeq}{g:Znh}
  (rule:∀(i j:Int) (t u:Tok) (s:Shared) (Q:Zu) (E:Zu),Q (Zc4 s.toks) {s with toks:=s.toks+1}->Zkj):
  de X f (jT λi j=>Zc4):=by
 ext m;obtain⟨i,j,rfl,rfl,q⟩:=h;ext h;ext M;exact Zl1 ⟨Zc4,H,YJ,Zs,q⟩
theorem Ec{f:Zeq}{g:Int->Int->Bool}
  (rule:∀(i j:Int) (t u:Tok) (s:Shared) (Q:Zu) (E:Zu),Q (.bool ZdX) s->Zkj):
  de X f (jT λi j=>.bl ZdX):=by
 ext m;obtain⟨i,j,rfl,rfl,q⟩:=h;ext h;ext M;exact Zl1 ⟨.bl ZdX,H,I,rfl,q⟩
def atx(i j:Int):Prop:=0<=j/\j<=1000000/\i.natAbs<2 ^ 64
def Pz(i j:Int):Prop:=(-(2 ^ 64)<i/\i<2 ^ 64)∨(-(2 ^ 64)<j/\j<2 ^ 64)
theorem Pz.ok{i j:Int}(h:Pz i j):IntMulOk i j:=by
 rcases h with⟨h1,h2⟩|⟨h1,h2⟩
 ·exact .of_left (intBits_le_64 h1 h2)
 ·exact .of_right (intBits_le_64 h1 h2)
theorem n0:ZlK (jT λi j=>.int (i+j)):=Eb λ_ _ _ _ _ _ _ q=>add_int q
theorem qW:de X (binaryOp .Sub) (jT λi j=>.int (i-j)):=Eb λ_ _ _ _ _ _ _ q=>sub_int q
theorem aiS:de X (binaryOp .Mult) (rI Pz λi j=>.int (i*j)):=opI λ_ _ _ _ _ _ _ hc q=>mul_int q hc.ok
theorem aiN:de X (binaryOp .LShift) (rI atx λi j=>.int (i*2 ^ j.toNat)):=opI λ_ _ _ _ _ _ _ hc q=>lshift_int_small hc.1 hc.2.1 hc.2.2 q
theorem aiV:de X (binaryOp .BitAnd) (jT λi j=>.int (Builtin.bitAnd i j)):=Eb λ_ _ _ _ _ _ _ q=>and_int q
theorem aaH:de X (binaryOp .BitOr) (jT λi j=>.int (Builtin.bitOr i j)):=Eb λ_ _ _ _ _ _ _ q=>or_int q
theorem unI{f:Value->Sem Value}{g:Int->Int}
  (rule:∀(i:Int) (t:Tok) (s:Shared) (Q:Zu) (E:Zu),Q (.int (g i) s.toks) {s with toks:=s.toks+1}->Yx (f Zce) Q E s):
  Ov X f (rU λi=>.int (g i)):=by
 intro pins s σ H x v Q I rx h;obtain⟨i,rfl,q⟩:=h;ext h;exact rule i t s _ _ ⟨.int (g i),H,YJ,Zs,q⟩
theorem agy:Ov X (unaryOp .USub) (rU λi=>.int (-i)):=unI λ_ _ _ _ _ q=>neg_int q
end
def qL:V->V->Bool
 | .ba,.ba =>true| .ba,.int _=>true| .int _,.ba =>true| .ba,.bl _=>true| .bl _,.ba =>true| .ba,.str _=>true| .str _,.ba =>true
 | .int _,.int _=>true| .bl _,.bl _=>true| .str _,.str _=>true| .gr _,.gr _=>true
 | .int _,.str _=>true| .str _,.int _=>true| .bl _,.str _=>true| .str _,.bl _=>true
 |_,_=>false
def wW:R2:=λx y H Q=>qL x y=true/\Q (.bl (decide (x=y))) H
def tF:R2:=λx y H Q=>qL x y=true/\Q (.bl (!decide (x=y))) H
theorem adQ{i j:Int}:decide (V.int i=V.int j)=(i==j):=by rw[iS];simp
theorem adS{i j:Bool}:decide (V.bl i=V.bl j)=(i==j):=by rw[iS];simp
theorem adP{i j:Str}:decide (V.str i=V.str j)=(i==j):=by rw[iS];simp
theorem adR{i j:Array UInt8}:decide (V.gr i=V.gr j)=(i.toList==j.toList):=by
 rw[iS];cases i
 cases j
 simp
section
variable {X:Cx}{a b c:Expr}{ta tb tc:TE}{pos:Pos}
theorem dC{pins:Zx}{σ:St}{H:Hp}{s:Shared}{Q:VK}{k k':Bool}(I:Zg)(q:Q (.bl k) H)(e:k=k'):YB (.bool k') s:=by subst e;exact⟨.bl k,H,I,rfl,q⟩
theorem cS:de X (compareOp .Eq) wW:=by
 ext m;obtain⟨hs,q⟩:=h;cases x with
 |ba=>
  cases rx
  cases y with
  |ba=>cases ry;exact PySem.EqNone.eq_none_none YQ
  |bl j=>cases ry;exact PySem.EqNone.eq_none_bool YQ
  |int j=>obtain⟨t',rfl⟩:=ry;exact PySem.EqNone.eq_none_int YQ
  |str j=>obtain⟨t',rfl⟩:=ry;exact PySem.EqNone.eq_none_str YQ
  |_=>exact WI
 |bl i=>
  cases rx
  cases y with
  |ba=>cases ry;exact PySem.EqNone.eq_bool_none YQ
  |bl j=>cases ry;exact eq_bool (Vy adS)
  |str j=>obtain⟨t',rfl⟩:=ry;exact PySem.EqMixed.eq_bool_str YQ
  |_=>exact WI
 |int i=>
  ext h;cases y with
  |ba=>cases ry;exact PySem.EqNone.eq_int_none YQ
  |int j=>obtain⟨t',rfl⟩:=ry;exact eq_int (Vy adQ)
  |str j=>obtain⟨t',rfl⟩:=ry;exact PySem.EqMixed.eq_int_str YQ
  |_=>exact WI
 |str i=>
  ext h;cases y with
  |ba=>cases ry;exact PySem.EqNone.eq_str_none YQ
  |bl j=>cases ry;exact PySem.EqMixed.eq_str_bool YQ
  |int j=>obtain⟨t',rfl⟩:=ry;exact PySem.EqMixed.eq_str_int YQ
  |str j=>obtain⟨t',rfl⟩:=ry;exact eq_str (Vy adP)
  |_=>exact WI
 |gr i=>
  ext h;cases y with
  |gr j=>obtain⟨t',rfl⟩:=ry;exact PySem.W.eq_bytes (Vy adR)
  |_=>exact WI
 |_=>cases y<;>exact WI
theorem xh:Zlb tF:=by
 ext m;obtain⟨hs,q⟩:=h;cases x with
 |ba=>
  cases rx
  cases y with
  |ba=>cases ry;exact PySem.EqNone.ne_none_none YQ
  |bl j=>cases ry;exact PySem.EqNone.ne_none_bool YQ
  |int j=>obtain⟨t',rfl⟩:=ry;exact PySem.EqNone.ne_none_int YQ
  |str j=>obtain⟨t',rfl⟩:=ry;exact PySem.EqNone.ne_none_str YQ
  |_=>exact WI
 |bl i=>
  cases rx
  cases y with
  |ba=>cases ry;exact PySem.EqNone.ne_bool_none YQ
  |bl j=>cases ry;exact ne_bool (Vy (cb not adS))
  |str j=>obtain⟨t',rfl⟩:=ry;exact PySem.EqMixed.ne_bool_str YQ
  |_=>exact WI
 |int i=>
  ext h;cases y with
  |ba=>cases ry;exact PySem.EqNone.ne_int_none YQ
  |int j=>obtain⟨t',rfl⟩:=ry;exact ne_int (Vy (cb not adQ))
  |str j=>obtain⟨t',rfl⟩:=ry;exact PySem.EqMixed.ne_int_str YQ
  |_=>exact WI
 |str i=>
  ext h;cases y with
  |ba=>cases ry;exact PySem.EqNone.ne_str_none YQ
  |bl j=>cases ry;exact PySem.EqMixed.ne_str_bool YQ
  |int j=>obtain⟨t',rfl⟩:=ry;exact PySem.EqMixed.ne_str_int YQ
  |str j=>obtain⟨t',rfl⟩:=ry;exact ne_str (Vy (cb not adP))
  |_=>exact WI
 |gr i=>
  ext h;cases y with
  |gr j=>obtain⟨t',rfl⟩:=ry;exact PySem.W.ne_bytes (Vy (cb not adR))
  |_=>exact WI
 |_=>cases y<;>exact WI
theorem qX:de X (compareOp .Lt) (jT λi j=>.bl (decide (i<j))):=Ec λ_ _ _ _ _ _ _ q=>lt_int q
theorem nZ:de X (compareOp .LtE) (jT λi j=>.bl (decide (i<=j))):=Ec λ_ _ _ _ _ _ _ q=>le_int q
theorem pD:de X (compareOp .Gt) (jT λi j=>.bl (decide (j<i))):=Ec λ_ _ _ _ _ _ _ q=>gt_int q
theorem Ku:de X (compareOp .GtE) (jT λi j=>.bl (decide (j<=i))):=Ec λ_ _ _ _ _ _ _ q=>ge_int q
theorem Ks:de X (compareOp .Is) (λx y H Q=>y=.ba /\Q (.bl (decide (x=.ba))) H):=by
 ext m;obtain⟨rfl,q⟩:=h;cases ry
 refine is_none_gen (Vy ?_);cases x<;>first
  |(cases rx;rfl)
  |(obtain⟨t,rfl⟩:=rx;rfl)
theorem aaI:de X (compareOp .IsNot) (λx y H Q=>y=.ba /\Q (.bl (!decide (x=.ba))) H):=by
 ext m;obtain⟨rfl,q⟩:=h;cases ry
 refine isnot_none_gen (Vy ?_);cases x<;>first
  |(cases rx;rfl)
  |(obtain⟨t,rfl⟩:=rx;rfl)
theorem bB(b:Expr){op:CmpOp}(h:op≠.In :=by decide)(h2:op≠.NotIn :=by decide):Zh8 b=false:=by
 have e1:(op==CmpOp.In)=false:=by cases op<;>first |rfl|exact absurd rfl h
 have e2:(op==CmpOp.NotIn)=false:=by cases op<;>first |rfl|exact absurd rfl h2
 cases b<;>simp[behindInMarks,e1,e2]
theorem eE{op:CmpOp}{r:R2}(ho:Zhw)(ha:We)(hb:UT)(hm:Zh8 b=false):Zt ZkH ZiR:=by intro pins s σ H Q I h;exact wpAny_Compare1 Zon hm
def qF(t:TE):TT:=fun σ H Q=>t σ H λx H'=>∃k,x=.bl k/\Q k H'
theorem bN{op:CmpOp}{r:R2}(ho:Zhw)(ha:We)(hb:UT)(hm:Zh8 b=false):PT X ZkH (qF ZiR):=by
 ext f;refine wpAny_isTrue_Compare1 (aN VA λv s1 ⟨x,H1,I1,r1,q1⟩=>aN Zfd λu s2 ⟨y,H2,I2,r2,q2⟩=>
  aN (ho pins s2 σ H2 x y v u _ I2 r1 r2 q2) λc s3 ⟨z,H3,I3,r3,k,e,q3⟩=>?_) hm
 subst e;cases r3
 exact qA ⟨H3,I3,q3⟩
def sM(r r':R2)(ta tb tc:TE):TE:=fun σ H Q=>Xc H λx H1=>tb σ H1 λy H2=>r x y H2 λz H3=>∃k,z=.bl k/\
 (if k=true then tc σ H3 λw' H4=>r' y w' H4 Q else Q ZaE H3)
theorem D0{op tP:CmpOp}{r r':R2}(ho:Zhw)(kE:de X (compareOp tP) r')(ha:We)(hb:UT)(hc:Zt c tc)
  (hm:lastMarks [op,tP] [b,c]=false:=by with_unfolding_all rfl):Zt Zrd (sM r r' ta tb tc):=by
 ext f;refine Compare_chain (aN VA λv s1 ⟨x,H1,I1,r1,q1⟩=>chain_link (aN Zfd λu s2 ⟨y,H2,I2,r2,q2⟩=>
  aN (ho pins s2 σ H2 x y v u _ I2 r1 r2 q2) λd s3 ⟨z,H3,I3,r3,k,e,q3⟩=>?_)) hm
 subst e;cases r3
 refine qA ?_;cases k with
 |false=>exact ite_ff ⟨ZaE,H3,I3,rfl,q3⟩
 |true=>exact ite_tt (chain_last (aN Zsn λw' s4 ⟨z',H4,I4,r4,q4⟩=>Zs0 Q I4 r2 r4 q4))
theorem Kd{op tP:CmpOp}{r r':R2}(ho:Zhw)(kE:de X (compareOp tP) r')(ha:We)(hb:UT)(hc:Zt c tc)
  (hm:lastMarks [op,tP] [b,c]=false:=by with_unfolding_all rfl):PT X Zrd (qF (sM r r' ta tb tc)):=by
 ext f;refine isTrue_chain (aN VA λv s1 ⟨x,H1,I1,r1,q1⟩=>test_link (aN Zfd λu s2 ⟨y,H2,I2,r2,q2⟩=>
  aN (ho pins s2 σ H2 x y v u _ I2 r1 r2 q2) λd s3 ⟨z,H3,I3,r3,k,e,q3⟩=>?_)) hm
 subst e;cases r3
 refine qA ?_;cases k with
 |false=>
  obtain⟨k',e',q'⟩:=q3;cases e'
  exact ite_ff ⟨H3,I3,q'⟩
 |true=>
  refine ite_tt (test_last (aN Zsn λw' s4 ⟨z',H4,I4,r4,q4⟩=>aN (Zs0 _ I4 r2 r4 q4) λd' s5 ⟨z2,H5,I5,r5,k2,e2,q5⟩=>?_));subst e2;cases r5
  exact qA ⟨H5,I5,q5⟩
def yO(K:PySem.W.Frag)(x:V)(H:Hp)(k:Bool):Prop:=
 match x with
 | .ba =>k=false
 | .bl b=>k=b
 | .int i=>k=(i != 0)
 | .str y=>y.length<=sizeLine/\k=((y.length:Int) != 0)
 | .gr y=>y.size<=sizeLine/\k=((y.size:Int) != 0)
 | .ref p=>(∃xs,Y2 p xs/\k= !xs.isEmpty)∨(∃xs,Vx p xs/\k= !xs.isEmpty)∨∃kvs,H p=some Yt/\k= !kvs.isEmpty
 |_=>False
theorem al5{κ:Type}{kvs:XI}{vs:Zap}(r:XM):(!vs.isEmpty)= !kvs.isEmpty:=by cases r<;>rfl
theorem ab5{xs:Ze}{its:Zp}(r:U0):(!its.toArray.isEmpty)= !xs.isEmpty:=by cases r<;>simp
theorem tZ:(sizeLine:Nat)<2 ^ 63:=by rw[zL];decide
theorem agK:asd X (λx H Q=>∃k,yO X.K x H k/\Q k H):=by
 intro pins s σ H x v Q I rx h;obtain⟨k,e,q⟩:=h;have hl:=tZ;have hs:sizeLine=16777216:=zL;cases x with
 |ba=>
  cases rx
  have e':k=false:=e;subst e';exact truthy_none ⟨H,I,q⟩
 |bl b=>
  cases rx
  have e':k=b:=e;subst e';exact qA ⟨H,I,q⟩
 |int i=>
  ext h;have e':k=(i != 0):=e;subst e';exact PySem.P.truthy_int ⟨H,I,q⟩
 |str y=>
  ext h;obtain⟨hy,e'⟩:y.length<=sizeLine/\k=((y.length:Int) != 0):=e;subst e';exact PySem.P.truthy_str Zb ⟨H,YJ,q⟩
 |gr y=>
  ext h;obtain⟨hy,e'⟩:y.size<=sizeLine/\k=((y.size:Int) != 0):=e;subst e';exact PySem.W.truthy_bytes Zb ⟨H,YJ,q⟩
 |ref p=>
  cases rx
  have e':(∃xs,ZaY p xs/\k= !xs.isEmpty)∨(∃xs,Za0 p xs/\k= !xs.isEmpty)∨∃kvs,H p=some Yt/\k= !kvs.isEmpty:=e;rcases e' with⟨xs,hx,e'⟩|⟨xs,hx,e'⟩|⟨kvs,hx,e'⟩
  ·subst e';obtain⟨its,r,pl,hz⟩:=I.list hx;have hlen:=r.length;exact wpAny_truthy_list pl.isList (by simp only[dR];omega) Zrl
  ·subst e';obtain⟨its,r,pl,hz⟩:=I.tuple hx;have hlen:=r.length;exact truthy_tuple pl (by simp only[dR];omega) Zrl
  ·subst e';obtain⟨hz,hS,vs,r,m⟩:kvs.length<=sizeLine/\(p==sysModules)=false/\∃vs,XM/\s.heap.DictOf Zbw p vs:=I.aC p _ hx;have hlen:kvs.length=vs.length:=yR r;exact wpAny_truthy_dict hS m Zb ⟨H,YJ,by rw[al5 r];exact q⟩
 |_=>exact(show False from e).elim
theorem ah5(ha:We)(he:Zol):
  PT X a (fun σ H Q=>Xc H λx H'=>∃k,yO X.K x H' k/\Q k H'):=by
 ext f;exact isTrue_plain (aN VA λv s1 ⟨x,H1,I1,r1,q1⟩=>agK pins s1 σ H1 x v Q I1 r1 q1) (he _)
theorem aiW:ZlK (λx y H Q=>∃i j,x=.str i/\y=.str j/\i.length+j.length<=sizeLine/\Q (.str (i++j)) H):=by intro pins s σ H x y v u Q I rx ry h;obtain⟨i,j,rfl,rfl,hz,q⟩:=h;obtain⟨t,rfl⟩:=rx;obtain⟨t',rfl⟩:=ry;exact add_str (λt' tk=>⟨.str (i++j),H,YJ,Zs,q⟩) hz
theorem oZ{x:V}{us:Zp}(r:Vals [x] us):∃u,us=[u]/\RelV x u:=by
 cases r with
 |cons r1 r2=>cases r2;exact⟨_,rfl,r1⟩
theorem vals2{x y:V}{us:Zp}(r:Vals [x,y] us):∃u w',us=[u,w']/\RelV x u/\RelV y w':=by
 cases r with
 |cons r1 r2=>
  cases r2 with
  |cons r3 r4=>cases r4;exact⟨_,_,rfl,r1,r3⟩
theorem arj(hc:XA):gJ X (.builtin "max") (λxs H Q=>∃i j,xs=[.int i,.int j]/\Q (.int (if j>i then j else i)) H):=by
 ext z;ext b4;refine max_two_ints YR λh' tk k=>⟨_,H,I.kept k,?_,q⟩;by_cases hj:j>i
 ·rw[af hj,af hj];exact Zs
 ·rw[ae hj,ae hj];exact Zs
theorem ari(hc:XA):gJ X Zmu (λxs H Q=>∃i j,xs=[.int i,.int j]/\Q (.int (if j<i then j else i)) H):=by
 ext z;ext b4;refine min_two_ints YR λh' tk k=>⟨_,H,I.kept k,?_,q⟩;by_cases hj:j<i
 ·rw[af hj,af hj];exact Zs
 ·rw[ae hj,ae hj];exact Zs
theorem ara:gJ X (.type "str") (λxs H Q=>∃i,xs=[.int i]/\i.natAbs.log2<1920/\Q (.str (toString i)) H):=by intro pins s σ H xs us Q I r h;obtain⟨i,rfl,hz,q⟩:=h;obtain⟨u,rfl,t,rfl⟩:=oZ r;exact PySem.P.str_of_int hz ⟨.str _,H,YJ,Zs,q⟩
theorem arh:gJ X (.builtin "ord") (λxs H Q=>∃x,xs=[.str x]/\x.length=1/\Q (.int (x.cps.getD 0 0 :Nat)) H):=by intro pins s σ H xs us Q I r h;obtain⟨x,rfl,hz,q⟩:=h;obtain⟨u,rfl,t,rfl⟩:=oZ r;exact ord_of_one hz Zcv
def oT(K:PySem.W.Frag)(x:V)(H:Hp)(n:Nat):Prop:=
 match x with
 | .str y=>y.length<=sizeLine/\n=y.length
 | .gr y=>y.size<=sizeLine/\n=y.size
 | .ref p=>(∃xs,Y2 p xs/\n=xs.length)∨∃xs,Vx p xs/\n=xs.length
 |_=>False
theorem aro:gJ X ZhX (λxs H Q=>∃x n,xs=[x]/\oT X.K x H n/\Q ZdT H):=by
 ext z;obtain⟨x,n,rfl,e,q⟩:=h;obtain⟨u,rfl,rx⟩:=oZ r;have hl:=tZ;have hs:sizeLine=16777216:=zL;cases x with
 |str y=>
  ext h;obtain⟨hy,e'⟩:y.length<=sizeLine/\n=y.length:=e;subst e';exact len_str Zb Zcv
 |gr y=>
  ext h;obtain⟨hy,e'⟩:y.size<=sizeLine/\n=y.size:=e;subst e';exact PySem.W.len_bytes Zb Zcv
 |ref p=>
  cases rx
  have e':(∃xs,ZaY p xs/\n=xs.length)∨∃xs,Za0 p xs/\n=xs.length:=e;rcases e' with⟨xs,hx,e'⟩|⟨xs,hx,e'⟩
  ·subst e';obtain⟨its,r',pl,hz⟩:=I.list hx;ext aG;exact Calls.call_len_list pl.isList (by simp only[dR];omega) ZoB
  ·subst e';obtain⟨its,r',pl,hz⟩:=I.tuple hx;ext aG;exact len_tuple pl (by simp only[dR];omega) ZoB
 |_=>exact(show False from e).elim
end
end L2
namespace L2
open PySem PySem.Spec PyProof.Rows
structure so(h:Heap)(x dx C:Addr)(mA:Zy):Prop where
 obj:h.get? x=some (Zg9 dx)
 ns:h.Ns1 dx mA
 ne:dx≠x
theorem alm{h:Heap}{dx:Addr}{mA:Zy}(n:h.Ns1 dx mA):∃od,h.get? dx=some od/\∀name,PySem.W.lookIn name od=some (mA name):=by
 obtain⟨o,es,ep,ho,hd,hk,_,hm⟩:=n;refine⟨o,ho,λname=>?_⟩;have e:=hm name;unfold nsFind findBy at e;rw[←Array.find?_toList]at e;unfold PySem.W.lookIn;rw[hd];ext i;split
 ·rename_i y q;rw[q]at e;exact cb some e
 ·rename_i q;rw[q]at e;have a:es.toList.any (·.refKey)=false:=by rw[afO];intro y hy;obtain⟨z,t,A7⟩:=hk y (Array.mem_toList_iff.mp hy);simp[DictEntry.refKey,A7]
  have a':¬es.toList.any (·.refKey)=true:=by rw[a];exact eh
  rw[ae a'];exact cb some e
theorem so.look{h:Heap}{x dx C:Addr}{mA:Zy}(I:so h x dx C mA):∃od,PySem.W.InstAt h x (Zg9 dx) C (some od)/\∀name,PySem.W.lookIn name od=some (mA name):=
 let⟨od,ho,hl⟩:=alm I.ns
 ⟨od,⟨I.obj,rfl,rfl,ho⟩,hl⟩
section
variable {prog:Program}{w:World}{A:Around}{E:Zu}{s:Shared}{K:PySem.W.Frag}{x dx C f:Addr}{mA:Zy}{name:Str}{v:Value}
theorem get_map{expr:Bool}{Q:Zu}(X:Zdi)(I:so s.heap x dx C mA)(hg:Zhx name=true)(hh:ZhF C=true)
  (ha:Zbg name=some none) (hv:mA name=some v) (ig:PySem.W.handedIn v=true) (h:Q v {s with toks:=s.toks+1}):
  wpAny Y5 A (getAttr Zdp name expr) Q E s:=by
 obtain⟨od,J,hl⟩:=I.look;exact PySem.W.get_value X J (PySem.W.plainGet_of hg).1 (PySem.W.findObj_own hh ha rfl (by rw[hl,hv])) ig h
theorem ahG{ns:Zc}{Q:Zah}(X:Zdi)(I:so s.heap x dx C mA)
  (hs:Zbg "__setattr__"=some Zj0) (hp:ZlS C=true) (ht:PySem.W.takerIn K C name=some none) (hh:ZhF C=true)
  (hw:Znj ns) (hsz:ns.length<=sizeLine)
  (h:∀h',so h' x dx C (λy=>if y=name then some v else mA y)->Heap.SameBut dx s.heap h'->Q () {s with heap:=h',toks:=s.toks+2}):
  wpAny Y5 A (setAttr Zdp name v) Q E s:=by
 obtain⟨od,J,hl⟩:=I.look;refine PySem.W.set_plain X J hs (PySem.W.osa_open (s:={s with toks:=s.toks+1}) (r:=none) X J hp ht λb=>?_);obtain⟨cd,hc,xY⟩:=PySem.W.any_some hh;have hx:s.heap.get? x=some ⟨Wd,some dx,.plain,#[]⟩:=I.obj;refine aj (aL (aj (aj (wpAny_loadPart hx (aj (PySem.W.Looks.here (s:={s with toks:=s.toks+1}) (PySem.W.looks_clsIn X hc) ?_))))));rw[xY];refine aL (a:=some dx) (aj (aL (aj ?_)));refine wpAny_nsSet1 (s:={s with toks:=s.toks+1}) I.ns λh' fH EU=>?_;obtain⟨oD,esD,epD,hoD,hdD,hcD⟩:=fH.count (PySem.Within.cons name v hw);refine aj (wpAny_lookBehind hoD (by rw[hdD];exact pastItsLine_dict (cq hcD (by rw[bb];omega))) ?_);exact aL (h _ ⟨(EU.2 _ (qp I.ne)).trans I.obj,fH,I.ne⟩ EU)
theorem alg{R:Zho}{vs:Zp}{kw:Zak}(X:Zdi)(hm:ZmA C=true)
  (hi:Zbg "__init__"=some ZaH) (hf:PySem.W.typeIn K Yn=some (.type "function"))
  (h:codeAny Y5 (A.under (.builtin "type.__call__" ⟨.ref C::vs,kw⟩)) (.call Yn ⟨.ref YW::vs,kw⟩) (PySem.W.InitBack YW R)
   {s with heap:=(s.heap.push PySem.W.emptyDict).push (PySem.W.instObj C s.heap.objs.size)}):
  codeAny Y5 A (.call Wd ⟨vs,kw⟩) R s:=by
 obtain⟨hh,g,d,t,os⟩:=s;exact PySem.W.make_core (PySem.W.makes_of X hm) (PySem.W.looks_findIn X hi) (λself=>PySem.W.bind_fn X self hf) Xf h
end
def fh(f:Str)(v:V):Y6->List Zgu
 |[]=>[(f,v)]
 |(g,x)::r=>if g=f then(g,v)::r else(g,x)::fh f v r
theorem abc(f g:Str)(v:V):∀fs:List Zgu,(fh f v fs).lookup g=if g=f then some v else fs.lookup g
 |[]=>by
  show List.lookup g [(f,v)]=_;by_cases h:g=f
  ·have hb:(g==f)=true:=oK.mpr h;simp only[List.lookup,hb,af h]
  ·have hb:(g==f)=false:=ip.mpr h;simp only[List.lookup,hb,ae h]
 |(k,x)::r=>by
  have ih:=abc f g v r;ext aM
  ·rw[af hk];by_cases h:g=k
   ·have hb:(g==k)=true:=oK.mpr h;simp only[List.lookup,hb,af (h.trans hk)]
   ·have hb:(g==k)=false:=ip.mpr h;simp only[List.lookup,hb,ae (λe:g=f=>h (e.trans hk.symm))]
  ·rw[ae hk];by_cases h:g=k
   ·have hb:(g==k)=true:=oK.mpr h;simp only[List.lookup,hb,ae (λe:g=f=>hk (h.symm.trans e))]
   ·have hb:(g==k)=false:=ip.mpr h;simp only[List.lookup,hb];exact ih
theorem La(f:Str)(v:V):∀fs:List Zgu,f∈(fh f v fs).map Zh/\∀g,g∈fs.map Zh->g∈(fh f v fs).map Zh
 |[]=>⟨by simp[fh],λg h=>by simp at h⟩
 |(k,x)::r=>by
  obtain⟨i1,i2⟩:=La f v r;ext aM
  ·rw[af hk];subst hk;exact⟨Zf,λg h=>ZmL⟩
  ·rw[ae hk];refine⟨?_,λg h=>?_⟩
   ·rw[cw];exact ZD i1
   ·rw[cw]at h⊢;rcases aJ.mp h with e|e
    ·exact aJ.mpr Zcb
    ·exact ZD (i2 g e)
theorem abv(f:Str)(v:V):∀fs:List Zgu,(fh f v fs).length <=fs.length+1
 |[]=>by simp[fh]
 |(k,x)::r=>by
  have ih:=abv f v r;ext aM
  ·rw[af hk,bb,bb];omega
  ·rw[ae hk,bb,bb];omega
theorem jJ.some_of{v:V}{o:Zad}(r:jJ VS o):∃u,o=some u/\RelV v u:=by
 cases o with
 |none=>exact(show False from r).elim
 |some u=>exact⟨u,rfl,r⟩
theorem anI{v:V}{u:Value}(r:XQ):PySem.W.handedIn u=true:=by
 cases v with
 |ba=>cases(show u=Value.none from r);rfl
 |bl b=>cases(show u=Value.bool b from r);rfl
 |int i=>obtain⟨t,e⟩:=ZqN;cases e;rfl
 |str x=>obtain⟨t,e⟩:=ZqO;cases e;rfl
 |gr b=>obtain⟨t,e⟩:=(show∃t,u=Value.bytes b t from r);cases e;rfl
 |FJ b=>obtain⟨t,e⟩:=(show∃t,u=Value.float b t from r);cases e;rfl
 |ref a=>cases(show u=Value.ref a from r);rfl
 |ty n=>cases(show u=Value.type n from r);rfl
section
variable {P:Program}{w:World}{H H':Hp}{h h':Heap}{a C dx:Addr}{fs fs':Y6}
theorem Lg(aC:Xq)(e:H a=some Up):∃mA,so h a dx C mA/\(∀f,Zle)/\Znj (fs.map Zh)/\fs.length<=1000/\H dx=some Zgs:=by obtain⟨d,z,ne,ob,mA,n,r,q⟩:=(show Vh Up from aC a _ e);exact⟨mA,⟨ob,n,ne⟩,r,q,z,d⟩
end
structure jN(K:PySem.W.Frag)(C:Addr):Prop where
 pg:Zhx Str.empty=true
 hd:ZhF C=true
 po:ZlS C=true
 sa:Zbg "__setattr__"=some Zj0
theorem jN.get{K:PySem.W.Frag}{C:Addr}(c:jN K C)(f:Str):Zhx f=true:=c.pg
def hJ(K:PySem.W.Frag)(C:Addr)(f:Str):Prop:=Zbg f=some none
theorem hJ.ag0{K:PySem.W.Frag}{C:Addr}{f:Str}(n:Vz f):PySem.W.takerIn K C f=some none:=by unfold PySem.W.takerIn;rw[show Zbg f=some none from n];rfl
section
variable {X:Cx}{pins:Zx}{σ:St}{H:Hp}{s:Shared}{a C dx:Addr}{fs:Y6}{f:Str}{v:V}{A:Around}{E:Zu}
theorem anT{b:Bool}{Q:Zu}(I:Zg)(e:H a=some Up)(c:jN X.K C)(n:hJ X.K C f)(l:fs.lookup f=some v)
  (h:∀u s',ZU H s'->XQ->Q u s'):wpAny Yf A (getAttr ZY f b) Q E s:=by
 obtain⟨mA,O,r,_,_,_⟩:=Lg I.aC e;obtain⟨u,hu,ru⟩:=ZmM (o:=mA f) (by rw[←l];exact r f);exact get_map I.ku O (c.get f) c.hd n hu (anI ru) (h u _ YJ ru)
theorem ahD{y:V}{u:Value}{Q:Zah}(I:Zg)(e:H a=some Up)(c:jN X.K C)(n:hJ X.K C f)(hl:ZnU)(ry:XC)
  (h:∀s',ZU (Zw a (V1 dx (fh f y fs))) s'->Q () s'):wpAny Yf A (setAttr ZY f u) Q E s:=by
 obtain⟨mA,O,r,wi,_,ho⟩:=Lg I.aC e;have hz:(fs.map Zh).length <=sizeLine:=by rw[aq,zL];omega
 refine ahG I.ku O c.sa c.po n.ag0 c.hd wi hz λh' O' sb=>h _ ?_;have hd:∃o,h'.get? dx=some o:=let⟨o,_,_,e',_⟩:=O'.ns;⟨o,e'⟩;refine I.write (x:=a) (e:=dx) (by rw[e];exact True.intro) (.inr ho) (λb q hb z=>(sb.2 b hb).trans z) hd ?_;refine⟨by rw[ax O.ne];exact ho,?_,O.ne,O'.obj,_,O'.ns,λg=>?_,λg hg=>?_⟩
 ·have:=abv f y fs;omega
 ·show jJ ((fh f y fs).lookup g) (if g=f then some u else mA g);rw[abc];by_cases q:g=f
  ·rw[af q,af q];exact ry
  ·rw[ae q,ae q];exact r g
 ·by_cases q:g=f
  ·rw[q];exact(La f y fs).1
  ·refine(La f y fs).2 g (wi g λz=>hg ?_);show(if g=f then some u else mA g)=none;rw[ae q];exact z
theorem Inv.made(I:Zg):ZU (upd (Wl (.own YW)) YW (V1 s.heap.objs.size []))
  {s with heap:=(s.heap.push PySem.W.emptyDict).push (PySem.W.instObj C s.heap.objs.size)}:=by
 have e1:(s.heap.push PySem.W.emptyDict).get? s.heap.objs.size=some PySem.W.emptyDict:=dj s.heap rfl;have e2:((s.heap.push PySem.W.emptyDict).push Zlr).get? YW=some Zlr:=by have:=dj Zry (o:=Zlr) rfl;rwa [gb]at this
 have e3:(s.heap.push PySem.W.emptyDict).Ns s.heap.objs.size (λ_=>none):=⟨PySem.W.emptyDict,#[],_,e1,rfl,(λe he=>absurd he Zf),λ_=>rfl⟩;have I1:=Zky (o:=.own YW) (h':=Zry) (t':=s.toks) ZhR ZC ⟨_,e1⟩;refine I1.laid (a:=s.heap.objs.size+1) (o:=V1 s.heap.objs.size []) (t':=s.toks) ZhR (OX (gb _ _)) ?_;have ne:s.heap.objs.size≠s.heap.objs.size+1:=eB (Cd _);refine⟨by rw[ax ne,au],ZI,ne,e2,λ_=>none,(Heap.Ns1.of_empty e3).at λo q=>cV _ q,λ_=>True.intro,λy hy=>absurd rfl hy⟩
theorem aes{prog:Program}{w:World}{env:Env}{e:Expr}{f:Str}{pos:Pos}{s:Shared}{Q:Zu}(hb:attributeBase e f env (eval e env)=eval e env)
  (h:YF (eval e env) (λo s₁=>YF (getAttr o f true) Q E s₁) E s):YF (eval Zlt env) Q E s:=
 Attribute_any_ h (by rw[arm_eval_Attribute,hb])
end
def sJ(K:PySem.W.Frag)(ta:TE)(f:Str):TE:=fun σ H Q=>Xc H λx H1=>∃a C dx fs v,x=.ref a/\H1 a=some Up/\jN K C/\Vz f/\fs.lookup f=some v/\Q v H1
def nU(K:PySem.W.Frag)(ta tv:TE)(f:Str):TS:=λD σ H=>tv σ H λy H1=>Xc H1 λx H2=>∃a C dx fs,x=.ref a/\H2 a=some Up/\jN K C/\Vz f/\fs.length<1000/\
 D.nx σ (YD a (V1 dx (fh f y fs)))
section
variable {X:Cx}{o e value:Expr}{f:Str}{pos pos' fQ:Pos}{ta tv:TE}
theorem aiy(he:Zt e ta)(hb:ZpS):Zt Zlt (sJ X.K ta f):=by intro pins s σ H Q I h;refine aes hb (aN Zae λu s1 ⟨x,H1,I1,rx,a,C,dx,fs,v,ex,ea,c,n,l,q⟩=>?_);subst ex;obtain rfl:u=Value.ref a:=rx;exact anT I1 ea c n l λu' s2 I2 ru=>⟨v,H1,I2,ru,q⟩
theorem aia(ha:Zt o ta)(hv:ZiZ)(hs:ZjI):PS X Zke (nU X.K ta tv f):=by intro pins s σ H D I h;refine plainObj_wpAny_Assign_Attribute (aN ZtK λu s1 ⟨y,H1,I1,ry,q⟩=>aN (ZmZ _ I1 q) λov s2 ⟨x,H2,I2,rx,a,C,dx,fs,ex,ea,c,n,l,q2⟩=>?_) hs;subst ex;obtain rfl:ov=Value.ref a:=rx;exact ahD I2 ea c n l ry λs3 I3=>⟨σ,_,I3,q2⟩
end
section
variable {X:Cx}{pins:Zx}{σ:St}{H:Hp}{s:Shared}{A:Around}{E:Zu}{Q:Zu}{c:Value}{b:Bool}
end
end L2
namespace L2
open PySem PySem.Spec PyProof.Rows
structure eA(k:Nat)(A:Around):Prop where
 hd:A.handled=none
 dp:A.depth+3*k+5<recursionLimit
 un:A.units+16*k+200<cLine
theorem eA.mono{j k:Nat}{A:Around}(r:eA k A)(h:j<=k):eA j A:=⟨r.hd,by have:=r.dp;omega,by have:=r.un;omega⟩
theorem eA.deeper{k:Nat}{A:Around}(r:eA YE A)(env:Env):eA k (A.deeper env):=
 ⟨r.hd,by have:=r.dp;show A.depth+1+3*k+5<_;omega,by have:=r.un;show A.units+3+16*k+200<_;omega⟩
theorem alh{A:Around}{C:Addr}{us:Zp}{kw:Zak}:(A.under ZgH).depth =A.depth+1:=by
 first |rfl|simp[Around.under,Code.weight,Code.isCreation,Code.isGuard,Code.isCaller,Code.frames,Code.isFrame,guardIds]
theorem alf{A:Around}{C:Addr}{us:Zp}{kw:Zak}:(A.under ZgH).units =A.units+1:=by
 first |rfl|simp[Around.under,Code.cUnits,Code.frames,Code.isFrame]
theorem eA.make{k:Nat}{A:Around}(r:eA YE A)(C:Addr)(us:Zp)(kw:Zak):eA k (A.under ZgH):=
 ⟨r.hd,by have:=r.dp;rw[alh];omega,by have:=r.un;rw[alf];omega⟩
theorem eA.depth{k:Nat}{A:Around}(r:eA k A):A.depth<recursionLimit:=by have:=r.dp;omega
theorem eA.units{k:Nat}{A:Around}(r:eA k A):A.units+64<cLine:=by have:=r.un;omega
def lM:TA:=λ_ H Q=>Q [] H
def wm(ta:TE)(tr:TA):TA:=fun σ H Q=>Xc H λx H1=>tr σ H1 λxs H2=>Q (x::xs) H2
section
variable {X:Cx}{e:Expr}{es:Ya}{te:TE}{t:TA}{pos:Pos}
theorem ai:PA X [] lM:=λ_ _ _ _ H Q I h=>Pr ⟨[],H,I,.nil,h⟩
theorem aa(ha:XR)(hr:PA X es t)(hs:Wq X.env=(false,Yz)::VL X.env:=by rfl):VG (wm te t):=by intro pos pins s σ H Q I h;rw[hs];show YI (spliced ((false,Yz)::Xb WJ)) _ _ s;refine Hn (aN VA λu s1 ⟨x,H1,I1,r1,q1⟩=>?_);exact aN (hr pos pins s1 σ H1 _ I1 q1) λus s2 ⟨xs,H2,I2,r2,q2⟩=>⟨x::xs,H2,I2,.cons r1 r2,q2⟩
def vP(t:TA):TE:=fun σ H Q=>t σ H λxs H1=>xs.length<=sizeLine/\∀p,H1 p=none->Q Z7 (Yo p Vk)
def nN(t:TA):TE:=fun σ H Q=>t σ H λxs H1=>xs.length<=sizeLine/\∀p,H1 p=none->Q Z7 (Yo p Yq)
theorem Kk{x1}(h:PA X es t):Zt (.Tuple es x1 pos) (vP t):=by intro pins s σ H Q I hq;refine wpAny_Tuple_spliced Zob;have hf:H1 s1.heap.objs.size=none:=Zez;refine⟨.ref s1.heap.objs.size,Yo s1.heap.objs.size Vk,Zpr,rfl,q _ hf⟩;exact⟨z,us,r,⟨_,dj _ rfl,rfl,_,rfl⟩⟩
theorem bh(h:PA X es t):Zt (.List es pos) (nN t):=by intro pins s σ H Q I hq;refine wpAny_List_spliced Zob;have hf:H1 s1.heap.objs.size=none:=Zez;refine⟨.ref s1.heap.objs.size,Yo s1.heap.objs.size Yq,Zpr,rfl,q _ hf⟩;exact⟨z,us,0,r,dj _ rfl⟩
end
abbrev Sp:=List V->Hp->VK->XK->Prop
abbrev qx:=List Env->Hp->Shared->XK->Value->Shared->Prop
structure vB(P:Program)(w:World)(K:PySem.W.Frag)(mg:Zy)(base:Heap)(A:Around)(outer:WX)(s:Shared)(H:Hp):Prop where
 frames:A.frames=some outer
 mod:Mod K mg base
 bs:∀b o,base.get? b=some o->s.heap.get? b=some o/\H b=none
 oJ:base.objs.size<=s.heap.objs.size
 mj:s.heap.FunFrames base outer
 uS:∀b∈nt outer,H b=none
 aC:Za8 H s.heap
 bare:AllBare s.gens
def CE(outer:WX)(P:Program)(w:World)(H:Hp)(s:Shared)(Q:VK)(u:Value)(s':Shared):Prop:=
 ∃v H',s'.os=s.os/\Znc/\Un (nt outer) [] H H' s.heap s'.heap/\Za8 H' s'.heap/\XQ/\Q v H'
def CR(CX:qx)(outer:WX)(P:Program)(w:World)(H:Hp)(s:Shared)(Q:VK)(E:XK)(r:Result)(s':Shared):Prop:=
 match r with
 | .ok (.ret u)=>CE outer P w H s Q u s'
 | .ok _=>False
 | .error e=>ZnE e s'
structure aM(P:Program)(w:World)(K:PySem.W.Frag)(mg:Zy)(base:Heap)(CX:qx)(k:Nat)(f:Addr)(fd:FuncData)(ps:Zc)(sp:Sp):Prop where
 len:∀vs H Q E,Zdl->vs.length=ps.length
 run:∀(A:Around) (outer:WX) (s:Shared) (H:Hp) (args:Args) (us:Zp) (vs:Ze) (Q:VK) (E:XK),eA k A->Zkz->BindsTo s fd args ZbK->ZaI->Zdl->
  codeAny Zdf A (.call Yn args) (CR CX outer P w H s Q E) s
theorem vB.make{P:Program}{w:World}{K:PySem.W.Frag}{mg:Zy}{base:Heap}{A:Around}{outer:WX}{s:Shared}{H:Hp}(e:Zkz)(C:Addr)(us:Zp)(kw:Zak):
  vB P w K mg base (A.under ZgH) outer s H:=⟨by first |exact e.frames|(simpa[Around.under,Code.envs,Code.isFrame,pushEnvs]using e.frames),e.mod,e.bs,e.oJ,e.mj,e.uS,e.aC,e.bare⟩
section
variable {X:Cx}{pins:Zx}{σ:St}{H:Hp}{s s':Shared}
theorem Inv.adA(I:Zg):vB X.prog X.w X.K X.mg X.base X.A X.stack s H:=
 ⟨I.ok.frames,I.ok.mod,I.bs,Zjw I.sz,I.stack,I.Qv,I.aC,I.bare⟩
theorem Inv.after{Q:VK}{u:Value}(I:Zg)(h:CE X.stack X.prog X.w H s Q u s'):YB u s':=by obtain⟨v,H',os,bare,un,aC,r,q⟩:=h;obtain⟨hh,g,d,t,os'⟩:=s';obtain rfl:os'=s.os:=os;exact⟨v,H',I.call (h':=hh) (g':=g) (d':=d) (t':=t) (ch:=[]) un aC bare (λb z=>ZaX Zf),r,q⟩
end
def sN(sp:Sp)(i_:Ze)(E:XK)(t:TA):TE:=fun σ H Q=>t σ H λvs H1=>sp (vs++i_) H1 Q E
def o_(C:Addr)(sp:Sp)(i_:Ze)(E:XK)(t:TA):TE:=fun σ H Q=>t σ H λvs H1=>∀x dx,H1 x=none->H1 dx=none->dx≠x->
 sp (.ref x::(vs++i_)) (upd (Yo dx UK) x (V1 dx [])) Zsb E
def Binds(K:PySem.W.Frag)(fd:FuncData)(ps:Zc)(ds:Zp):Prop:=
 ∀(s:Shared) (us:Zp),Zdi->(us++ds).length =ps.length->ZjU (ps.zip (us++ds))
theorem Binds.all{K:PySem.W.Frag}{fd:FuncData}{ps:Zc}(h:∀us:List Value,us.length=ps.length->bindArgs fd ZfK=pure ZbK):UC ps []:=λs us _ hl=>by rw[fc]at hl⊢;exact .of_eq (h us hl)
def Passes(CX:qx)(X:Cx)(E:XK):Prop:=∀(pins:Zx) (σ:St) (H:Hp) (s:Shared) (e:Value) (s':Shared),Zg->CX X.stack H s E e s'->X.xe e s'
section
variable {X:Cx}{CX:qx}{k:Nat}{f C:Addr}{fd:FuncData}{ps:Zc}{sp:Sp}{i_:Ze}{ds:Zp}{E:XK}{x m:Str}{p pos apos:Pos}{e o:Expr}{es:Ya}{ta:TE}{t:TA}
theorem TC{pins:Zx}{σ:St}{H:Hp}{s:Shared}{Q:VK}{us:Zp}{vs:Ze}(F:Zd9)(hr:eA k X.A)(hb:ZeL)(hd:ZfY)(hx:Zfi)
  (I:Zg) (r:ZaI) (h:sp (vs++i_) H Q E):Yx (call Yn us) YB X.xe s:=by
 have r2:Vals (vs++i_) (us++ds):=r.append hd;have hl:(us++ds).length =ps.length:=by rw[←r2.length];exact F.len _ _ _ _ h
 refine CA (uZ (F.run X.A X.stack s H ZfK (us++ds) (vs++i_) Q E hr I.adA (hb s us I.ku hl) r2 h) λr s' hq=>?_);cases r with
 |error e=>exact hx pins σ H s e s' I hq
 |ok fl=>
  cases fl with
  |ret u=>exact I.after hq
  |next=>exact False.elim hq
  |brk=>exact False.elim hq
  |cont=>exact False.elim hq
theorem aiD(F:Zd9)(hr:eA k X.A)(hg:XX)(hm:X.mg x=some Yn)(hk:PySem.W.keepIn X.K Yn=true)(hb:ZeL)(hd:ZfY)(hx:Zfi)
  (ha:VG t) (j5:(x==("__debug__":Str))=false:=by decide) (he:Wq X.env=(false,Yz)::VL X.env:=by rfl) (cC:(Xb WJ).any Zh=false:=by rfl):
  PE X Zcm (sN sp i_ E t):=by
 ext f;refine Zlz;refine Zkr hk ZoZ he cC;exact TC F hr hb hd hx I1 r q
structure Mk(K:PySem.W.Frag)(C f:Addr):Prop where
 makes:ZmA C=true
 init:Zbg "__init__"=some ZaH
 fn:PySem.W.isFn K Yn=true
 kp:Uh Wd=true
theorem TB{pins:Zx}{σ:St}{H:Hp}{s:Shared}{Q:VK}{us:Zp}{vs:Ze}(M:Mk X.K C f)(F:Zd9)(hr:eA YE X.A)(hb:ZeL)(hd:ZfY)
  (hx:Zfi) (I:Zg) (r:ZaI)
  (h:∀x dx,H x=none->H dx=none->dx≠x->sp (.ref x::(vs++i_)) (upd (Zw dx UK) x (V1 dx [])) Zsb E):
  wpAny Yf X.A (call Wd us) YB X.xe s:=by
 have hq:=h YW s.heap.objs.size (I.aC.fresh (Nat.le_succ _)) X1 (eB (Cd _));have I2:=Inv.made (C:=C) I;have r2:Vals (V.ref YW::(vs++i_)) Zsx:=.cons rfl (r.append hd);have hl:(Value.ref YW::us++ds).length =ps.length:=by have e:=r2.length;rw[F.len _ _ _ _ hq]at e;exact e.symm
 refine CA (alg (f:=f) I.ku M.makes M.init (oK.mp M.fn) (uZ (F.run _ X.stack _ _ ⟨Value.ref YW::us,[]⟩ Zsx _ _ E (hr.make C us [])
  (I2.adA.make C us []) (hb _ (Value.ref (s.heap.objs.size+1)::us) I2.ku hl) r2 hq) λr s' cF=>?_))
 cases r with
 |error e=>exact hx pins σ _ _ e s' I2 cF
 |ok fl=>
  cases fl with
  |ret u=>
   obtain⟨v,H',I3,rv,ev,q3⟩:=I2.after cF;subst ev;exact⟨rv,⟨V.ref YW,H',I3,rfl,q3⟩⟩
  |next=>exact False.elim cF
  |brk=>exact False.elim cF
  |cont=>exact False.elim cF
theorem aiw(M:Mk X.K C f)(F:Zd9)(hr:eA YE X.A)(hg:XX)(hm:X.mg x=some Wd)(hb:ZeL)(hd:ZfY)(hx:Zfi)
  (ha:VG t) (j5:(x==("__debug__":Str))=false:=by decide) (he:Wq X.env=(false,Yz)::VL X.env:=by rfl) (cC:(Xb WJ).any Zh=false:=by rfl):
  PE X Zcm (o_ C sp i_ E t):=by
 ext f;refine Zlz;refine Zkr M.kp ZoZ he cC;exact TB M F hr hb hd hx I1 r q
theorem aiv(M:Mk X.K C f)(F:Zd9)(hr:eA YE X.A)(hg:XX)(hm:X.mg x=some Wd)(hb:ZeL)(hd:ZfY)(hx:Zfi)
  (j5:(x==("__debug__":Str))=false:=by decide):Zt Zrr (o_ C sp i_ E lM):=by
 ext f;refine Zlz;exact PySem.W.callWith_K0 I.ku M.kp (TB (us:=[]) M F hr hb hd hx I .nil h)
end
section
variable {X:Cx}{CX:qx}{k:Nat}{f C:Addr}{fd:FuncData}{ps ks:Zc}{sp:Sp}{E:XK}{x m:Str}{p pos apos atW:Pos}{e o:Expr}{es:Ya}{t9:List Keyword}{te ta:TE}{t tk:TA}{nm:Option Str}
variable {g:Zp->Zp->Zp}{gV:Ze->Ze->Ze}
end
structure aV(N P:Zc)(sc:Scope):Prop where
 kind:sc.kind=.function
 co:sc.isCoroutine=false
 gen:sc.isGenerator=false
 nd:N.Nodup
 pre:N.take P.length=P
 par:∀x∈P,sc.names.lookup x=some .local ∨sc.names.lookup x=some .cell
 akF:∀y∈sc.names,y.2≠.free
theorem aeg{kindOf:Zht}{x:Str}:∀{binds:Zak} {m:Zy},(∀v,(x,v)∉binds)->bindL kindOf binds m x=m x
 |[],_,_=>rfl
 |(n,v)::r,m,h=>by
  unfold bindL;rw[aeg λw hw=>h w (ZD hw)];split
  ·have:x≠n:=by rintro rfl;exact h v aY
   simp[this]
  ·rfl
theorem aei{kindOf:Zht}{x:Str}:∀{binds:Zak} {m:Zy},(∀v,(x,v)∉binds)->bindC kindOf binds m x=m x
 |[],_,_=>rfl
 |(n,v)::r,m,h=>by
  unfold bindC;rw[aei λw hw=>h w (ZD hw)];split
  ·rfl
  ·have:x≠n:=by rintro rfl;exact h v aY
   simp[this]
theorem aeh{kindOf:Zht}{x:Str}{v:Value}:∀{P:Zc} {vs:Zp} {i:Nat} {m:Zy},P.Nodup->P[i]? =some x->vs[i]? =some v->kindOf x=some .local ->
  bindL kindOf (P.zip vs) m x=some v
 |[],_,_,_,_,h,_,_=>by simp at h
 |_::_,[],_,_,_,_,h,_=>by simp at h
 |p::P,w::vs,0,m,nd,h1,h2,hk=>by simp at h1 h2;subst h1;subst h2;show bindL kindOf ZhP m p=_;unfold bindL;rw[aeg λv hv=>(df.mp nd).1 (afs hv).1,af hk];simp
 |p::P,w::vs,i+1,m,nd,h1,h2,hk=>by show bindL kindOf ZhP m x=_;unfold bindL;exact aeh (i:=i) (df.mp nd).2 ZlY ZlZ hk
theorem aej{kindOf:Zht}{x:Str}{v:Value}:∀{P:Zc} {vs:Zp} {i:Nat} {m:Zy},P.Nodup->P[i]? =some x->vs[i]? =some v->kindOf x≠some .local ->
  bindC kindOf (P.zip vs) m x=some v
 |[],_,_,_,_,h,_,_=>by simp at h
 |_::_,[],_,_,_,_,h,_=>by simp at h
 |p::P,w::vs,0,m,nd,h1,h2,hk=>by simp at h1 h2;subst h1;subst h2;show bindC kindOf ZhP m p=_;unfold bindC;rw[aei λv hv=>(df.mp nd).1 (afs hv).1,ae hk];simp
 |p::P,w::vs,i+1,m,nd,h1,h2,hk=>by show bindC kindOf ZhP m x=_;unfold bindC;exact aej (i:=i) (df.mp nd).2 ZlY ZlZ hk
def start(N:Zc)(vs:Ze):St:=vs.map some++List.replicate (N.length-vs.length) none
def r6(CX:qx)(P:Program)(w:World)(K:PySem.W.Frag)(mg:Zy)(base:Heap)(N:Zc)(qual:Str)(scope:Scope)(f:Addr)(cd:Value)(A:Around)(outer:WX)(s:Shared)(H:Hp)(E:XK):Cx where
 prog:=P
 w:=w
 K:=K
 mg:=mg
 base:=base
 A:=A.deeper (Zaa cd)
 N:=N
 gM:=s
 vA:=H
 env:=Zaa cd
 outer:=outer
 stack:=Zaa cd::outer
 ex:=[]
 calm:=true
 fn:=λ_=>true
 pn:=[]
 xe:=λe s'=>wpAny Zdf (A.deeper (Zaa cd)) (leaving (Zaa cd) e) (λ_ JS=>ZnE e JS) (λe' JS=>ZnE e' JS) s'
theorem aea{sc:Scope}{n:Nat}{x:Str}(h:sc.names.lookup x=some .cell):∃c,(cellsFrom n sc.names []).lookup x=some c:=by have q:=PySem.W.cellsFrom_some sc.names n [] XN;exact Option.isSome_iff_exists.mp q
theorem al8{CX:qx}{P:Program}{w:World}{K:PySem.W.Frag}{mg:Zy}{base:Heap}{N ps:Zc}{qual:Str}{scope:Scope}{f:Addr}{cd:Value}{A:Around}{outer:WX}{s s1:Shared}{H:Hp}{E:XK}{us:Zp}{vs:Ze}
  (S:aV N ps scope) (hd:Vc) (e0:Zkz) (hl:vs.length=ps.length) (r:ZaI)
  (x:InCallC s s.heap.objs.size (bindL (Zaa cd).kindOf ZbK λ_=>none) (cellsFrom YW scope.names []) (bindC (Zaa cd).kindOf ZbK λ_=>none) s1):
  Inv (ZjR cd A outer s H E) [] (start N vs) H s1:=by
 have cC:ps.length<=N.length:=by have:=Zaw S.pre;rw[eY]at this;omega
 obtain⟨h1,tk,rfl,hk⟩:=x.done;have Ap:∀b:Addr,b∉(ZjR cd A outer s H E).ex :=λb z=>ZpA;refine⟨⟨e0.mod,S.kind,rfl,rfl,ZC,λy z c h1 h2=>?_,λy hy=>?_,λy c _ h=>?_,λ_=>hd,Around.frames_deeper e0.frames,.inr Uv,λb z=>ZaX (Ap b),e0.bs,e0.oJ,λb _ _=>Ap b,λb z=>ZaX (Ap b),e0.mj,e0.uS⟩,
  rfl,e0.bare,Un.kept hk,⟨_,x.toInCall.ns,λi y v h1 h2 h3=>?_⟩,λy c h=>⟨_,x.cell y c h⟩,e0.aC.fresh (aU _),λy c h=>?_,λp hp=>absurd (show p∈([]:List (Addr×Obj))from hp) (by simp),e0.aC.kept hk,?_⟩
 ·exact name_of_addr x.apart (kP h1) (kP h2)
 ·have hy:scope.names.lookup y=some .cell ∨scope.names.lookup y=some .free :=hy;rcases hy with hy|hy
  ·exact aea hy
  ·exact absurd rfl (S.akF _ (kP hy))
 ·exact Ztg
 ·have hi:i<vs.length:=by
   unfold start at h2;by_cases hi:i<vs.length
   ·exact hi
   ·rw[List.getElem?_append_right (by simpa using hi)]at h2;rw[List.getElem?_replicate]at h2;split at h2<;>cases h2
  have ha:vs[i]? =some v:=by
   unfold start at h2;rw[afC (by simpa using hi),cx]at h2;cases e:vs[i]? with
   |none=>rw[e]at h2;cases h2
   |some a=>rw[e]at h2;cases h2;rfl
  obtain⟨u,hu,rv⟩:=r.get ha;have hp:ps[i]? =some y:=by rw[←S.pre,afy Zb];exact h1
  have ndP:ps.Nodup:=by rw[←S.pre];exact S.nd.sublist (List.take_sublist _ _)
  refine⟨u,rv,?_⟩;rcases S.par y (bI hp)with k|k
  ·exact .inl ⟨k,aeh ndP hp hu k⟩
  ·obtain⟨c,e⟩:=aea (n:=s.heap.objs.size+1) k;refine .inr ⟨ZdS,c,e,?_⟩;have q:=x.cell y c e;rw[aej ndP hp hu (by show scope.names.lookup y≠_;rw[k];decide)]at q;exact q
 ·exact e0.aC.fresh Ztg
 ·unfold start;show _=N.length;rw[bS,aq,List.length_replicate];omega
theorem adn{CX:qx}{P:Program}{w:World}{K:PySem.W.Frag}{mg:Zy}{base:Heap}{k:Nat}{f:Addr}{name qual:Str}{params:Arguments}{body:WU}{scope:Scope}{dV kV doc pm aG ct oc:Value}{an od:Wt}
  {jl:Zdu} {N ps:Zc} {sp:Sp} (lk:K.lookup f=some ⟨oc,od,.func Zox,jl⟩) (lz:ZeG qual=true) (S:aV N ps scope)
  (len:ZjV)
  (Bc:∀(A:Around) (outer:WX) (s:Shared) (H:Hp) (vs:Ze) (Q:VK) (E:XK),eA k (A.deeper (Zaa aG))->Zdl->
   ∃t,jb (r6 CX P w K mg base N qual scope f aG A outer s H E) body t/\t {nx:=λ_ H'=>Q .ba H',rt:=Q} (start N vs) H):
  aM P w K mg base CX YE f Zox ps sp:=by
 refine⟨len,λA outer s H args us vs Q E hr e0 hb r oq=>?_⟩;have hl:=len _ _ _ _ oq;have KX:Zdi:=e0.mod.xx.keeps λb o e=>(e0.bs b o e).1;have lim:s.heap.NoLimit:=e0.mod.nolimit.keeps λb o e=>(e0.bs b o e).1;have anf:∀y∈ps.zip us,scope.names.lookup y.1=some .local ∨(scope.names.lookup y.1=some .cell /\((cellsFrom YW scope.names []).lookup y.1).isSome =true):=λ⟨n,v⟩ hy=>by
  rcases S.par n (afs hy).1 with q|q
  ·exact X9
  ·exact .inr ⟨q,PySem.W.cellsFrom_some _ _ _ X9⟩
 refine codeAny_call_function hr.depth (KX _ _ lk) rfl S.co S.gen rfl (PySem.W.codeRec_of KX lz) (hb _ _ _ _ ?_);refine wpAny_newFunctionEnv_cells S.kind anf λenv he s1 x=>?_;subst he;refine⟨lim.keeps x.toInCall.keep,codeAny_func ?_⟩;obtain⟨t,ht,hq⟩:=Bc A outer s H vs Q E (hr.deeper _) oq;have I:Inv ZtD [] (start N vs) H s1:=al8 S hr.hd e0 hl r x;refine gL (ht [] s1 (start N vs) H _ I hq) (λfl s' hs=>?_) λe s' hs=>hs;have fin:∀{σ':St} {H':Hp} {v:V} {u:Value},Inv ZtD [] σ' H' s'->XQ->Q v H'->CE outer P w H s Q u s':=
  λ{σ' H' v u} J rv q=>⟨v,H',J.os,J.bare,J.base,J.aC,rv,q⟩
 cases fl with
 |ret u=>
  obtain⟨v,σ',H',J,rv,q⟩:=hs;exact fin J rv q
 |next=>
  obtain⟨σ',H',J,q⟩:=hs;exact fin (v:=V.ba) (u:=Value.none) J rfl q
 |brk=>
  obtain⟨_,_,_,q⟩:=hs;exact False.elim q
 |cont=>
  obtain⟨_,_,_,q⟩:=hs;exact False.elim q
end L2
namespace L2
open PySem PySem.Spec PyProof.Rows
section
variable {X:Cx}{x:Str}{p pos:Pos}{e:Expr}{es:Ya}{t:TA}{id T:String}{r:ZlG}
def sO(r:ZlG)(t:TA):TE:=fun σ H Q=>t σ H λvs H1=>r vs H1 Q
theorem bW(hc:gJ X Zbz r)(hg:XX)(hm:X.mg x=none)(hv:bootBuiltins x=some Zbz)(ha:VG t)(hn:x≠"__name__":=by decide)(j5:(x==("__debug__":Str))=false:=by decide)
  (he:Wq X.env=(false,Yz)::VL X.env:=by rfl) (cC:(Xb WJ).any Zh=false:=by rfl):Zt Zcm (sO r t):=by
 ext f;refine sD (Zdg hv ?_ hn j5);exact asm Zot he cC
theorem w9(hc:gJ X (.type T) r)(hg:XX)(hm:X.mg x=none)(hv:bootBuiltins x=some (.type T))(ha:VG t)(hn:x≠"__name__":=by decide)(j5:(x==("__debug__":Str))=false:=by decide)
  (he:Wq X.env=(false,Yz)::VL X.env:=by rfl) (cC:(Xb WJ).any Zh=false:=by rfl):Zt Zcm (sO r t):=by
 ext f;refine sD (Zdg hv ?_ hn j5);exact Gb Zot he cC
end
end L2
namespace HT
open PySem PyProof.Rows
section
open PySem.SeqAt
open PySem.AutoSeq1 (wpAny_loadPart')
open PySem.MeetsSeq PySem.MeetsSeq2 PySem.MeetsSeq3
end
section
variable {prog:Program}{w:World}{A:Around}{E:Zu}{s:Shared}
def iW(n d:Nat):Ve->Nat
 |none=>d
 |some v=>if v<0 then(v+(n:Int)).toNat else min v.toNat n
theorem Tt(n d:Nat):iW n d none=d:=rfl
theorem DO(n d k:Nat):iW n d Znx=min k n:=by show(if(k:Int)<0 then((k:Int)+(n:Int)).toNat else min (k:Int).toNat n)=min k n;rw[ae Zb,mD]
end
end HT
namespace L2
open PySem PySem.Spec PyProof.Rows
abbrev TO:=St->Hp->(Option Int->Hp->Prop)->Prop
def PO(X:Cx)(e:Zfn)(t:TO):Prop:=
 ∀(pins:Zx) (s:Shared) (σ:St) (H:Hp) (Q:Ve->Hp->Prop),Zg->Zca->
  wpAny Yf X.A (evalPart e X.env) (λu s'=>∃o H',VQ/\IsPart u o/\Q o H') X.xe s
def vX:TO:=λ_ H Q=>Q none H
def vT(t:TE):TO:=fun σ H Q=>t σ H λx H1=>∃i,x=.int i/\Q (some i) H1
section
variable {X:Cx}{e:Expr}{te:TE}{lo hi:Zfn}{tl th:TO}{pos p2:Pos}
theorem pA:PO X none vX:=by intro pins s σ H Q I h;rw[evalPart_none];exact aL ⟨none,H,I,.none,h⟩
theorem kX(h:XR):PO X (some e) (vT te):=by intro pins s σ H Q I hw;rw[evalPart_some];refine aN (UA H _ I hw) λu s1 ⟨x,H1,I1,r1,q1⟩=>?_;obtain⟨i,rfl,q⟩:=q1;obtain⟨t,rfl⟩:=r1;exact⟨some i,H1,I1,Zce,q⟩
def Ox(X:Cx)(r:Zkp):Prop:=
 ∀(pins:Zx) (s:Shared) (σ:St) (H:Hp) (x:V) (v vl vu:Value) (lo hi:Ve) (sl:Addr) (Q:VK),Zg->WY->Ztk .none ->IsPart vl lo->IsPart vu hi->r x lo hi H Q->
  ∃T id,typeLookup (.type T) "__getitem__"=pure (some Zbz)/\s.TypeIs v T/\Yx (getItem v Zf8) YB X.xe s
def vR(r:Zkp)(te:TE)(tl th:TO):TE:=fun σ H Q=>te σ H λx H1=>tl σ H1 λl H2=>th σ H2 λu H3=>r x l u H3 Q
theorem mQ{r:Zkp}(hr:Ox X r)(he:XR)(hl:PO X lo tl)(hu:PO X hi th):Zt (.Subscript e Zts pos) (vR r te tl th):=by intro pins s σ H Q I h;refine Subscript_ ZpJ;refine wpAny_Slice (aN (hl pins s1 σ H1 _ I1 q1) λvl s2 ⟨l,H2,I2,pl,q2⟩=>aN (hu pins s2 σ H2 _ I2 q2) λvu s3 ⟨u,H3,I3,pu,q3⟩=>?_);rw[evalPart_none];refine Yw;have I4:ZU H3 {s3 with heap:=s3.heap.push {cls:=.type "slice",data:=.fields #[vl,vu,.none]}}:=I3.kept (t':=s3.toks) λb ob q=>cV _ q;obtain⟨T,id,hT,ht,hg⟩:=hr pins {s3 with heap:=s3.heap.push {cls:=.type "slice",data:=.fields #[vl,vu,.none]}} σ H3 x v vl vu l u s3.heap.objs.size Q I4 r1 (Heap.IsSliceOf.new ..) pl pu q3;show Yx (subscriptTail e Zts v (.ref s3.heap.objs.size)) YB X.xe {s3 with heap:=s3.heap.push {cls:=.type "slice",data:=.fields #[vl,vu,.none]}};exact tail_any (ops:=[.ref s3.heap.objs.size,v]) ht hT hg (by with_unfolding_all rfl)
def ja(xs:Ze)(lo hi:Ve):Ze:=(xs.drop (Zhi 0 lo)).take Zr1
theorem aqr(xs:Ze)(lo hi:Ve):(ja xs lo hi).length <=xs.length:=by unfold ja;rw[eY,mz];omega
end
end L2
namespace L2
open PySem PySem.Spec PyProof.Rows
def mY(n:Nat)(i:Int):Option Nat:=if 0<=i then(if i<n then some i.toNat else none)else if -(n:Int)<=i then some (i+n).toNat else none
def f_{α:Type}(xs:ZN)(i:Int):Option α:=(Zi4 i).bind λj=>xs[j]?
theorem abY{n:Nat}{i:Int}{j:Nat}(h:mY n i=some j):seqIndex? i n=some j/\j<n/\ -(n:Int)<=i/\i<n:=by
 unfold mY at h;by_cases h0:0<=i
 ·rw[af h0]at h;by_cases h1:i<n
  ·rw[af h1]at h;have e:i.toNat=j:=bY h;exact⟨by rw[ZnZ h1,e],Zb,Zb,h1⟩
  ·ext G;cases h
 ·rw[ae h0]at h;by_cases h1: -(n:Int)<=i
  ·rw[af h1]at h;have e:(i+n).toNat =j:=bY h;exact⟨by rw[Zm6 h1,e],Zb,h1,Zb⟩
  ·ext G;cases h
theorem Oi{α:Type}{xs:ZN}{i:Int}{v:α}(h:f_ xs i=some v):∃j,seqIndex? i xs.length=some j/\xs[j]? =some v/\j<xs.length/\ -(xs.length:Int)<=i/\i<xs.length:=by
 unfold f_ at h;cases e:Zi4 i with
 |none=>rw[e]at h;cases h
 |some j=>
  rw[e]at h;obtain⟨h1,h2,h3,h4⟩:=abY e;exact⟨j,h1,h,h2,h3,h4⟩
theorem bQ{α:Type}{xs:ZN}{j:Nat}{v:α}(h:xs[j]? =some v):f_ xs (j:Int)=some v:=by
 have hj:j<xs.length:=(iQ.mp h).1;have e:Zi4 (j:Int)=some j:=by unfold mY;rw[af Zb,af Zb];simp
 unfold f_;rw[e];exact h
theorem arS{α:Type}(xs:ZN)(v:α):f_ (xs++[v]) (-1)=some v:=by
 have hl:(xs++[v]).length =xs.length+1:=by simp
 have e:mY (xs++[v]).length (-1)=some xs.length:=by unfold mY;rw[hl,ae Zj,af Zb];congr 1;omega
 unfold f_;rw[e];show(xs++[v])[xs.length]? =some v;simp
def aso(b:Expr):Prop:=∀o i,subscripted b false o i=operate [o,i] (getItem o i)
def ze(X:Cx)(r:R2):Prop:=
 ∀(value slice:Expr) (pins:Zx) (s:Shared) (σ:St) (H:Hp) (x y:V) (v u:Value) (Q:VK),Zg->WY->XC->r x y H Q->
  subscripted slice false v u=operate [v,u] (getItem v u)->Yx (subscriptTail value slice v u) YB X.xe s
def oP(X:Cx)(id:String)(r:V8):Prop:=
 ∀(pins:Zx) (s:Shared) (σ:St) (H:Hp) (x:V) (xs:Ze) (v:Value) (us:Zp) (Q:VK),Zg->WY->WD->r x xs H Q->
  wpAny Yf X.A (call Zbz (v::us)) YB X.xe s
section
variable {X:Cx}{a b:Expr}{ta tb:TE}{pos:Pos}
theorem bj{r:R2}(hr:ze X r)(ha:We)(hb:UT)(hs:aso b):Zt (.Subscript a b pos) ZiR:=by intro pins s σ H Q I h;exact Subscript_ (Oh ha hb I h λv u s2 x y H2 I2 rx ry q=>hr a b pins s2 σ H2 x y v u Q I2 rx ry q (hs _ _))
def tH(K:PySem.W.Frag):R2:=λx y H Q=>∃p xs i v,x=.ref p/\y=.int i/\Y2 p xs/\f_ xs i=some v/\Q v H
def tG(K:PySem.W.Frag):R2:=λx y H Q=>∃p xs i v,x=.ref p/\y=.int i/\Vx p xs/\f_ xs i=some v/\Q v H
def wR:R2:=λx y H Q=>∃z i c,x=.str z/\y=.int i/\z.length<=sizeLine/\f_ z.cps.toList i=some c/\Q (.str ZbV) H
theorem alR:ze X (tH X.K):=by
 ext bR
 ext aA;ext am;ext bI;by_cases h0:0<=i
 ·have hj:i.toNat=j:=by rw[ZnZ h5]at h1;exact bY h1
  exact item_listR pl.isList h0 Zb (by rw[hj];simpa using ew) fin hs
 ·have hj:(i+(its.toArray.size:Int)).toNat =j:=by rw[Zm6 h4]at h1;rw[dR,←hl];exact bY h1
  exact Zr8 pl.isList.typeIs slot_list_getitem.lookup
   (wpAny_getItem_list_neg (Q:=λr s'=>r=w/\YB r s') pl.isList Zb (by rw[dR]<;>omega) Zb (by rw[hj];simpa using ew) ⟨rfl,fin⟩) hs
theorem alQ:ze X (tG X.K):=by
 ext bR
 ext aA;ext bi;ext bI;exact Zr8 pl.typeIs slot_tuple_getitem.lookup
  (getItem_tuple (j:=j) (Q:=λr s'=>r=w/\YB r s') pl Zb Zb (by rw[dR,←hl];exact h1) (by simpa using ew) ⟨rfl,fin⟩) hs
theorem EE:ze X wR:=by
 intro value slice pins s σ H x y v u Q I rx ry h hs;obtain⟨z,i,c,rfl,rfl,hz,he,q⟩:=h;ext h;ext M;obtain⟨j,h1,h2,h3,h4,h5⟩:=Oi he;have hl:z.cps.toList.length=z.length:=by simp[Str.length]
 rw[hl]at h1 h4 h5;have hn:=tZ;exact tail_any (sG s z t) slot_str_getitem.lookup (getItem_str (c:=c) (by have e1:decide (i< -(2 ^ 63 :Int))=false:=aX Zb;have e2:decide (i>=2 ^ 63)=false:=aX Zb;rw[e1,e2,PD]) (by rw[h1];simpa using h2) ⟨.str ZbV,H,YJ,Zs,q⟩) hs
theorem ale(its:Zp)(n j:Nat)(u:Value):Obj.mapSeq (·.setIfInBounds j u) {cls:=Yk,data:=VE n}={cls:=Yk,data:=.seq (its.set j u).toArray n}:=by simp[Obj.mapSeq]
theorem Inv.lst{pins:Zx}{σ:St}{H:Hp}{s:Shared}{p:Addr}{xs:Ze}(I:Zg)(h:H p=some Yq):
  ∃(its:Zp) (n:Nat),U0/\s.heap.get? p=some {cls:=Yk,data:=VE n}/\xs.length<=sizeLine:=by
 obtain⟨z,its,n,r,e⟩:=I.aC p _ h;exact⟨its,n,r,e,z⟩
theorem Inv.alj{pins:Zx}{σ:St}{H:Hp}{s:Shared}{p:Addr}{xs ys:Ze}{its its':Zp}{n n':Nat}{f:Obj->Obj}(I:Zg)(h:H p=some Yq)
  (ho:s.heap.get? p=some {cls:=Yk,data:=VE n}) (hf:f {cls:=Yk,data:=VE n}={cls:=Yk,data:=.seq its'.toArray n'}) (r:Zcd its') (hz:ZhA) (t:Nat):
  Inv X pins σ (Zw p Zdt) {s with heap:=s.heap.update p f,toks:=t}:=by
 have e:(s.heap.update p f).get? p=some {cls:=Yk,data:=.seq its'.toArray n'}:=by rw[zf f ho (by rw[hf]<;>rfl),hf]
 refine I.write (x:=p) (e:=p) (by rw[h];trivial) Xf (λb u hb q=>(Heap.get?_update_other _ _ (qp hb)).trans q) ⟨_,e⟩ ?_;exact⟨hz,its',n',r,e⟩
def wO:V->V->V->Hp->(Hp->Prop)->Prop:=λo i v H Q=>∃p xs k j,o=.ref p/\i=.int k/\H p=some Yq/\Zi4 k=some j/\Q ZrY
theorem set_list:OQ X wO:=by
 intro pins s σ H o i v ov iv u Q I ro ri rv h;obtain⟨p,xs,k,j,rfl,rfl,hp,hj,q⟩:=h;cases ro
 obtain⟨t,rfl⟩:=ri;obtain⟨its,n,r,ho,hz⟩:=I.lst hp;obtain⟨h1,h2,h3,h4⟩:=abY hj;have hl:=r.length;have hn:=tZ;have I':ZU ZrY {s with heap:=s.heap.update p (Obj.mapSeq (·.setIfInBounds j u))}:=
  I.alj hp ho (ale its n j u) (r.set rv j) (by rw[afu];exact hz) s.toks
 by_cases h0:0<=k
 ·have hk:k.toNat=j:=by rw[ZnZ h4]at h1;exact bY h1
  exact PySem.W.ki_setAt ho h0 Zb (by rw[dR,←hl];exact h4) (by rw[hk];exact⟨_,I',q⟩)
 ·have hk:(k+(its.toArray.size:Int)).toNat =j:=by rw[Zm6 h3]at h1;rw[dR,←hl];exact bY h1
  exact PySem.W.ki_setBack ho Zb (by rw[dR,←hl];exact h3) Zb (by rw[hk];exact⟨_,I',q⟩)
theorem ahq(lo hi:Ve)(n:Nat):(Zls n).1=((HT.iW n 0 lo:Nat):Int)/\(Zls n).2.1=((HT.iW n n hi:Nat):Int)/\(Zls n).2.2=1:=by
 refine⟨?_,?_,rfl⟩
 ·cases lo with
  |none=>simp[sliceBounds,HT.iW]
  |some i=>
   ext b6
   ·simp only[h,iD]<;>omega
   ·simp only[h,i5]<;>omega
 ·cases hi with
  |none=>simp[sliceBounds,HT.iW]
  |some i=>
   ext b6
   ·simp only[h,iD]<;>omega
   ·simp only[h,i5]<;>omega
theorem ahr(its:Zp)(lo hi:Ve):slicePick its.toArray lo hi none=((its.drop (ZmX 0 lo)).take (ZmX its.length hi-ZmX 0 lo)).toArray :=by obtain⟨h1,h2,h3⟩:=ahq lo hi its.toArray.size;unfold slicePick;rw[h1,h2,h3];simp only[sliceRange_one,pick_run,dR]<;>rfl
def tE(K:PySem.W.Frag):V->Ve->Ve->Hp->VK->Prop:=λx lo hi H Q=>∃a xs,x=.ref a/\YO/\∀p,H p=none->Q Z7 (Zw p (.lst (ja xs lo hi)))
theorem ahs:Ox X (tE X.K):=by
 intro pins s σ H x v vl vu lo hi sl Q I rx hs pl pu h;obtain⟨a,xs,rfl,hx,q⟩:=h;cases rx
 obtain⟨its,r,ht,hz⟩:=I.list hx;have hlen:=r.length;refine⟨"list",_,slot_list_getitem.lookup,ht.isList.typeIs,?_⟩;refine wpAny_getItem_list_slice ht.isList hs pl pu .none Zf ?_ (by rw[dR]<;>omega);rw[ahr,←hlen];refine⟨Ys,_,ZlP (o:=.lst (ja xs lo hi)) (λb ob q=>cV _ q) ZC ?_,rfl,q _ X1⟩;exact⟨cq (aqr xs lo hi) hz,_,0,(r.drop (Zhi 0 lo)).take Zr1,dj _ rfl⟩
def il:V->Bool
 | .ba =>true
 | .bl _=>true
 | .int _=>true
 | .str _=>true
 |_=>false
def jG:V->V->Bool
 | .ba,.ba =>true
 | .bl a,.bl b=>a==b
 | .bl a,.int b=>(if a then 1 else 0)==b
 | .int a,.bl b=>a==(if b then 1 else 0)
 | .int a,.int b=>a==b
 | .str a,.str b=>a==b
 |_,_=>false
theorem aqa{A:Around}{s:Shared}{y x:V}{u v:Value}(ry:XC)(rx:WY)(fy:il y=true)(fx:il x=true):SeqAt.EqAt A s u v (jG y x):=by
 cases y with
 |ba=>
  cases ry
  cases x with
  |ba=>cases rx;exact SeqAt.EqAt.same _
  |bl b=>cases rx;exact SeqAt.EqAt.none_bool b
  |int b=>obtain⟨t,rfl⟩:=rx;exact SeqAt.EqAt.none_int b t
  |str b=>obtain⟨t,rfl⟩:=rx;exact SeqAt.EqAt.none_str b t
  |_=>exact ZgR
 |bl a=>
  cases ry
  cases x with
  |ba=>cases rx;exact SeqAt.EqAt.bool_none a
  |bl b=>cases rx;exact SeqAt.EqAt.bool_bool a b
  |int b=>obtain⟨t,rfl⟩:=rx;exact SeqAt.EqAt.bool_int a b t
  |str b=>obtain⟨t,rfl⟩:=rx;exact SeqAt.EqAt.bool_str a b t
  |_=>exact ZgR
 |int a=>
  ext M;cases x with
  |ba=>cases rx;exact SeqAt.EqAt.int_none a t'
  |bl b=>cases rx;exact SeqAt.EqAt.int_bool a t' b
  |int b=>obtain⟨t,rfl⟩:=rx;exact SeqAt.EqAt.int_int a t' b t
  |str b=>obtain⟨t,rfl⟩:=rx;exact SeqAt.EqAt.int_str a t' b t
  |_=>exact ZgR
 |str a=>
  ext M;cases x with
  |ba=>cases rx;exact SeqAt.EqAt.str_none a t'
  |bl b=>cases rx;exact SeqAt.EqAt.str_bool a t' b
  |int b=>obtain⟨t,rfl⟩:=rx;exact SeqAt.EqAt.str_int a t' b t
  |str b=>obtain⟨t,rfl⟩:=rx;exact SeqAt.EqAt.str_str a t' b t
  |_=>exact ZgR
 |_=>exact absurd (show false=true from fy) eh
def iL(x:V)(u:Value):Bool:=match u with
 | .none =>jG .ba x
 | .bool b=>jG WB x
 | .int i _=>jG Xs x
 | .str z _=>jG ZdU x
 |_=>false
theorem Bw{x y:V}{u:Value}(r:XC)(f:il y=true):U8 u=jG y x:=by
 cases y with
 |ba=>cases r;rfl
 |bl b=>cases r;rfl
 |int i=>obtain⟨t,rfl⟩:=r;rfl
 |str z=>obtain⟨t,rfl⟩:=r;rfl
 |_=>exact absurd (show false=true from f) eh
theorem BM{x:V}:∀{xs:Ze} {us:Zp},WD->xs.all il=true->us.any U8=xs.any λy=>jG y x
 |_,_,.nil,_=>rfl
 |y::xs,u::us,.cons r t,f=>by rw[hZ,aQ]at f;rw[ke,ke,Bw r f.1,BM t f.2]
theorem tW{A:Around}{s:Shared}{x:V}{v:Value}(rx:WY)(fx:il x=true):∀{xs:Ze} {us:Zp},WD->xs.all il=true->∀u∈us,SeqAt.EqAt A s u v (U8 u)
 |_,_,.nil,_=>λu hu=>by cases hu
 |y::xs,u::us,.cons r t,f=>λu' hu=>by
  rw[hZ,aQ]at f;rcases aJ.mp hu with rfl|hu
  ·rw[Bw r f.1];exact aqa r rx f.1 fx
  ·exact tW rx fx t f.2 u' hu
def mZ(x:V)(xs:Ze):Bool:=xs.any λy=>jG y x
def qP(K:PySem.W.Frag)(neg:Bool):R2:=λx y H Q=>∃p xs,y=.ref p/\(Y2 p xs∨Vx p xs)/\il x=true/\xs.all il=true/\Q (.bl (if neg then !mZ x xs else mZ x xs)) H
theorem aiT:Zhz (qP X.K false):=by
 ext m;ext c2
 rcases hq with hq|hq
 ·ext am;refine SeqAt.in_listAt U8 pl.isList ZgI ZeA;ext X
 ·ext bi;refine SeqAt.in_tupleAt U8 pl ZgI ZeA;ext X
theorem aiP:Zlc (qP X.K true):=by
 ext m;ext c2
 rcases hq with hq|hq
 ·ext am;refine SeqAt.notIn_listAt U8 pl.isList ZgI ZeA;ext X
 ·ext bi;refine SeqAt.notIn_tupleAt U8 pl ZgI ZeA;ext X
theorem ark:gJ X Yk (λxs H Q=>∃p ys,xs=[.ref p]/\(ZaY p ys∨Za0 p ys)/\∀l,H l=none->Z0 (XZ Zdt)):=by
 ext z;obtain⟨p,ys,rfl,hq,q⟩:=h;obtain⟨u,rfl,rx⟩:=oZ r;cases rx
 have fin:∀(its:Zp),Zcd its->ys.length<=sizeLine->∀(h':Heap) (c':Nat),(∀b o',s.heap.get? b=some o'->h'.get? b=some o')->
   h'.get? s.heap.objs.size=some {cls:=Yk,dict:=none,data:=VE c',slots:=#[]}->YB Ys {s with heap:=h'}:=λits r' hz h' c' kp e=>
  ⟨Ys,_,ZlP kp ZC (show WL _ h' _ Zdt from⟨hz,its,c',r',e⟩),rfl,q _ X1⟩
 rcases hq with hq|hq
 ·obtain⟨its,r',pl,hz⟩:=UL;ext aG;obtain⟨o,ho,hc,n,hd⟩:=pl.isList;exact call_list_seq p Xf ho hc hd ZpC Zsm
 ·obtain⟨its,r',pl,hz⟩:=Zfc;ext aG;obtain⟨o,ho,hc,n,hd⟩:=pl;exact call_list_seq p Zdm ho hc hd ZpC Zsm
def CG(K:PySem.W.Frag)(T:String)(x:V)(H:Hp):Prop:=match x with
 | .str _=>T="str"
 | .int _=>T="int"
 | .ref p=>(T="list"/\∃xs,Y2 p xs)∨(T="tuple"/\∃o,K.lookup p=some o/\o.cls=.type "tuple"/\o.dict=none)∨
   (T="dict"/\((∃kvs,H p=some Yt)∨∃kvs,H p=some ZaC))∨(T="set"/\∃S n,H p=some (.set S n))
 |_=>False
theorem agz{pins:Zx}{σ:St}{H:Hp}{s:Shared}{T:String}{x:V}{v:Value}(I:Zg)(r:WY)(ty:CG X.K T x H):
  s.TypeIs v T/\∀a,v=.ref a->∃ob,s.heap.get? a=some ob/\ob.dict=none:=by
 cases x with
 |str z=>
  ext A;cases(show T="str"from ty)
  exact⟨sG s z t,λ_ e=>nomatch e⟩
 |int i=>
  ext A;cases(show T="int"from ty)
  exact⟨typeIs_int s i t,λ_ e=>nomatch e⟩
 |ref p=>
  cases r
  rcases ty with⟨rfl,xs,hq⟩|⟨rfl,o,hk,hc,hd⟩|⟨rfl,hk⟩|⟨rfl,S,n,hk⟩
  ·obtain⟨its,_,pl,_⟩:=UL;refine⟨pl.isList.typeIs,λa e=>?_⟩;cases e
   obtain⟨o,n,e,c,hd,_⟩:=pl;exact⟨o,e,hd⟩
  ·refine⟨⟨o,I.ku p o hk,hc⟩,λa e=>?_⟩;cases e
   exact⟨o,I.ku _ o hk,hd⟩
  ·have z:∃o,s.heap.get? p=some o/\o.ExactDict:=by
    rcases hk with⟨kvs,hk⟩|⟨kvs,hk⟩
    ·ext cg
    ·ext cg
   obtain⟨o,e,ex⟩:=z;refine Zsc;cases e2
   exact⟨o,e,ex.2.1⟩
  ·obtain⟨o,_,_,_,e,ex,_⟩:=I.aC p _ hk;refine Zsc;cases e2
   exact⟨o,e,ex.2.1⟩
 |_=>exact False.elim ty
def sP(K:PySem.W.Frag)(T:String)(r:V8)(to:TE)(t:TA):TE:=fun σ H Q=>to σ H λx H1=>CG K T x H1/\t σ H1 λxs H2=>r x xs H2 Q
variable {o e:Expr}{es:Ya}{to:TE}{t:TA}{name:Str}{apos gq:Pos}{T id:String}{r:V8}
theorem aiE(pa:PlainAttrs T)(slot:Slot T name id)(rD:ZgF)(hm:oP X id r)(ho:UU)(ha:VG t)
  (lA:Ziv Uo=Za9 X.env:=by rfl)
  (A9:((Zb1 (Wq X.env)).all (λx=>!x.1)&&(backToKw gq Zhl).all Zmp
   &&decide ((e::es).length +([]:List Keyword).length +(if([]:List Keyword).isEmpty then 0 else 1)<30))=true:=by rfl)
  (lx:(apos.endLine==gq.line)=true:=by rfl) (hs:Wq X.env=(false,Yz)::VL X.env:=by rfl) (LB:(Zb1 WJ).any Zh=false:=by rfl):
  PE X (.Call Zic Za2 [] gq) (sP X.K T r to t):=by
 ext f;refine wpAny_Call_method_late lA A9 lx rfl (aN Zcq λv s1 ⟨x,H1,I1,r1,ty,q1⟩=>?_);obtain⟨h1,h2⟩:=agz I1 r1 ty;refine⟨T,id,pa,slot,rD,h1,h2,?_⟩;have hA:=ha gq pins s1 σ H1 _ I1 q1;rw[hs]at hA⊢;refine Py (by show(false||(Zb1 WJ).any Zh)=false;rw[LB]<;>rfl) (afY ?_);exact aN hA λus s2 ⟨vs,H2,I2,r2,q2⟩=>hm pins s2 σ H2 x vs v us Q I2 r1 r2 q2
end
end L2
namespace L2
open PySem PySem.Spec PyProof.Rows
def MtM(X:Cx)(id:String)(r:V8):Prop:=
 ∀(pins:Zx) (s:Shared) (σ:St) (H:Hp) (x:V) (xs:Ze) (v:Value) (us:Zp) (Q:VK),Zg->WY->WD->r x xs H Q->
  wpAny Yf X.A (call Zbz (v::us)) YB X.xe s
theorem Vals.one:∀{x:V} {us:Zp},Vals [x] us->∃u,us=[u]/\RelV x u
 |_,_,.cons r .nil =>⟨_,rfl,r⟩
theorem Vals.rep{xs:Ze}{us:Zp}(h:WD):∀k:Nat,Vals (ZcK xs).flatten (ZcK us).flatten
 |0=>.nil
 |k+1=>by rw[G7,G7,nB,nB];exact Vals.append h (Vals.rep h k)
theorem foldl_rep(its:Zp):∀(k:Nat) (acc:Zp),
  List.foldl Zmo acc.toArray (ZcK its.toArray)=(acc++(ZcK its).flatten).toArray
 |0,acc=>by simp
 |k+1,acc=>by
  have e:acc.toArray++its.toArray=(acc++its).toArray :=by simp
  have e2:(acc++its)++(ZcK its).flatten =acc++(List.replicate YE its).flatten :=by rw[G7,nB,eC]
  rw[←e2,←foldl_rep its k (acc++its),←e,G7,vq]
section
variable {X:Cx}{pins:Zx}{σ:St}{H:Hp}{s:Shared}{l b:Addr}{xs ys zs:Ze}
theorem Inv.abb{its its':Zp}{n:Nat}{f:YS->YS}{t':Nat}(I:Zg)(hH:H l=some Yq)
  (e:s.heap.get? l=some {cls:=Yk,data:=VE n}) (hf:f its.toArray=its'.toArray) (hv:Zcd its') (hz:ZhA):
  Inv X pins σ (XZ Zdt) {s with heap:=s.heap.update l (Obj.mapSeq f),toks:=t'}:=by
 have q:=PySem.IsL.update e f;rw[hf]at q;refine I.write (x:=l) (e:=l) (by rw[hH];exact trivial) Xf (λb' u hb hu=>(Heap.get?_update_other s.heap (Obj.mapSeq f) (qp hb)).trans hu) ⟨_,q⟩ ?_;exact⟨hz,its',_,hv,q⟩
theorem Inv.abm{its:Zp}{t':Nat}(I:Zg)(hv:Zcd its)(hz:ZhA):
  Inv X pins σ (Wl Zdt) {s with heap:=s.heap.push {cls:=.type "list",data:=.seq its.toArray},toks:=t'}:=
 I.laid Zmn ZC ⟨hz,its,0,hv,dj _ rfl⟩
theorem Inv.fresh(I:Zg):H s.heap.objs.size=none:=X1
theorem Inv.xu(I:Zg)(hH:H l=some Yq):xs.length<=sizeLine/\∃(its:Zp) (n:Nat),U0/\xs.length=its.length/\s.heap.get? l=some {cls:=Yk,data:=VE n}:=by obtain⟨z,its,n,r,e⟩:=I.aC l _ hH;exact⟨z,its,n,r,r.length,e⟩
theorem Ej{n:Nat}(h:n<=sizeLine):Builtin.List.listTooLong n=false:=by unfold Builtin.List.listTooLong;exact aX Zb
end
section
variable {X:Cx}
def wY:V->Ze->Hp->VK->Prop:=λx vs H Q=>∃l xs y,x=.ref l/\vs=[y]/\H l=some Yq/\xs.length<sizeLine/\Q .ba (XZ (.lst (xs++[y])))
theorem gO:MtM X "list.append" wY:=by
 intro pins s σ H x vs v us Q I rx rv h;obtain⟨l,xs,y,rfl,rfl,hH,hz,q⟩:=h;cases rx
 obtain⟨u,rfl,ru⟩:=rv.one;ext ak;refine qg F.slot_list_append Zc0 F.entry_list_append (F.args_list_append_2 _ _) (PySem.list_append l its.toArray n u (by rw[dR];omega)) ⟨e,?_⟩;refine⟨.ba,_,I.abb (its':=its++[u]) hH e Zf (r.append ZmR) ?_,rfl,q⟩;rw[bS,O8];omega
def wV:V->Ze->Hp->VK->Prop:=λx vs H Q=>∃l b xs zs,x=.ref l/\vs=[.ref b]/\H l=some Yq/\H b=some (.lst zs)/\xs.length+zs.length<=sizeLine/\Q .ba (XZ (.lst (xs++zs)))
theorem n_:MtM X "list.extend" wV:=by
 intro pins s σ H x vs v us Q I rx rv h;ext cA
 obtain⟨u,rfl,ru⟩:=rv.one;cases ru
 ext ak;obtain⟨z2,ll,n2,r2,bH,e2⟩:=I.xu hB;have hsz:its.toArray.size+ll.toArray.size<=sizeLine:=by rw[dR,dR];omega
 have LO:¬(!its.toArray.isEmpty&&Builtin.List.listTooLong (its.toArray.size+ll.toArray.size))=true:=by rw[Ej hsz,Hr];exact eh
 refine qg F.slot_list_extend Zc0 F.entry_list_extend (F.args_list_extend_2 _ _)
  (AutoSeq1.list_extend_list_list_0 l its.toArray n b ll.toArray n2 LO (by rw[dR];omega) Zb) ⟨e,e2,?_⟩
 refine⟨.ba,_,I.abb (its':=its++ll) hH e Zf (r.append r2) ?_,rfl,q⟩;rw[bS];omega
def wX:R2:=λx y H Q=>∃l b xs zs,x=.ref l/\y=.ref b/\H l=some Yq/\H b=some (.lst zs)/\xs.length+zs.length<=sizeLine/\∀p,H p=none->Q Z7 (Zw p (.lst (xs++zs)))
theorem k0:ZlK wX:=by
 ext m;ext cA
 cases ry
 ext ak;obtain⟨z2,ll,n2,r2,bH,e2⟩:=I.xu hB;refine PySem.P.add_list e e2 ?_ (by rw[dR,dR];omega);have ea:its.toArray++ll.toArray=(its++ll).toArray :=by simp
 rw[ea];exact⟨.ref _,_,I.abm (t':=s.toks) (r.append r2) (by rw[bS];omega),rfl,q _ I.fresh⟩
def wQ:R2:=λx y H Q=>∃l k xs,x=.ref l/\y=.int k/\H l=some Yq/\ -(2 ^ 63)<=k/\k<2 ^ 63/\xs.length*k.toNat<=sizeLine/\
 ∀p,H p=none->Q Z7 (Zw p (.lst (List.replicate k.toNat xs).flatten))
theorem len_rep{α:Type}(xs:ZN)(k:Nat):(ZcK xs).flatten.length =k*xs.length:=by
 induction k with
 |zero=>simp
 |succ k ih=>rw[G7,nB,bS,ih,Nat.succ_mul,G5]
theorem aaG:de X (binaryOp .Mult) wQ:=by
 ext m;obtain⟨l,k,xs,rfl,rfl,hH,h1,h2,hz,q⟩:=h;cases rx
 ext aA;ext ak;have hlen:its.toArray.size*k.toNat<=sizeLine:=by rw[dR,←hl];exact hz
 have anB:¬its.toArray.size*k.toNat>(2 ^ 63-1) / 8:=by
  have:(sizeLine:Nat)<=(2 ^ 63-1) / 8:=by decide
  omega
 have anq:¬(!Builtin.List.listFitsIndex k)=true:=by rw[fitsIndex_both h1 h2];exact eh
 have LO:¬Builtin.List.listTooLong (its.toArray.size*k.toNat)=true:=by rw[Ej hlen];exact eh
 have amR:List.foldl Zmo #[] (List.replicate (if its.toArray.isEmpty=true then 0 else k.toNat) its.toArray)=(List.replicate k.toNat its).flatten.toArray :=by
  have f0:∀m:Nat,List.foldl Zmo #[] (List.replicate m its.toArray)=(List.replicate m its).flatten.toArray :=λm=>by have:=foldl_rep its m [];rw[mx]at this;exact this
  rw[f0];cases its with
  |nil=>simp
  |cons a r'=>rw[ae Zf]
 refine wpAny_binaryOp_repeat_ref (T:="list") (U:="int") Zj Zc0 (λs'=>typeIs_int s' k t) noFill_list_mul F.fills_int_mul F.slot_int_rmul repeat_list F.slot_int_index.lookup
  (qg F.slot_int_rmul (typeIs_int s k t) F.entry_int_rmul (F.args_int_rmul_2 _ _) (int___rmul___int_list k t l its.toArray n)
   ⟨e,rfl,⟨_,e,rfl⟩,qg F.slot_list_mul ⟨_,e,rfl⟩ F.entry_list_mul (F.args_list_mul_2 _ _) (AutoListH.list___mul___list_int_3 l its.toArray n k t anq anB LO) ⟨e,?_⟩⟩)
 rw[amR];exact⟨.ref _,_,I.abm (t':=s.toks) (r.rep k.toNat) (by rw[len_rep,Nat.mul_comm];exact hz),rfl,q _ I.fresh⟩
end
section
variable {prog:Program}{w:World}{A:Around}{E:Zu}{s:Shared}
theorem arx{a c n:Nat}(hac:a<=c)(hc:c<=n):sliceBounds Zir Znw none n=((a:Int),(c:Int),1):=by
 simp only[sliceBounds,aeO];have h1:¬((a:Int)<0):=by omega
 have h2:¬((c:Int)<0):=by omega
 simp only[h1,h2,i5,show(1 :Int)>0 by decide,iD];congr 1
 ·omega
 ·congr 1;omega
set_option maxRecDepth 100000 in
theorem atB{l b sl:Addr}{items new:YS}{n n2:Nat}{vl vu:Value}{a c:Nat}{Q:Zah}
    (e:s.heap.get? l=some {cls:=Yk,data:=.seq items n}) (e2:s.heap.get? b=some {cls:=Yk,data:=.seq new n2}) (aK:l≠b)
    (hs:Ztk .none) (pl:IsPart vl Zir) (pu:IsPart vu Znw) (hac:a<=c) (hc:c<=items.size)
    (hsz:items.size+new.size<=sizeLine) (h:Q () {s with heap:=s.heap.update l (Obj.mapSeq λxs=>xs.extract 0 a++new++xs.extract c xs.size)}):
    wpAny Y5 A (setItem Z6 Zf8 ZdA) Q E s:=by
  have hl:Ze4 items:=PySem.IsL.isList e;have hb:s.heap.IsList b new:=PySem.IsL.isList e2;obtain⟨os,E5,Me,L9⟩:=id hs;have hTs:s.TypeIs Zf8 "slice":=⟨os,E5,Me⟩;have amu:¬((rawPart none==rawInt 0)=true):=eh;have Ls:Builtin.List.listSameRef Z6 ZdA=false:=by unfold Builtin.List.listSameRef;exact ip.mpr aK
  have amY:(max (a:Int) (c:Int)).toNat =c:=by omega
  have br:((λxs:Array Value=>xs.extract 0 a++new++xs.extract c xs.size) items).size <=sizeLine+1:=by simp only[Array.size_append,Array.size_extract];omega
  unfold setItem
  try with_reducible refine nH ?_
  first |refine aj (aL ?_)|skip
  refine aj (wpAny_sequenceKey hl.typeIs Zj ?_);refine aj (vK (name:=Str.ofString "__setitem__") hl.typeIs slot_list_setitem
    (mI slot_list_setitem hl.typeIs entry_list_setitem ?_ (args_list_setitem _ _ _)))
  show YI (Builtin.List.listSubscript? Zf8>>= _) _ _ s;ext q;unfold Builtin.List.listSubscript?;refine aj (PU hTs slice_no_index ?_);simp only[Option.isNone_none,iD];refine Yw;show YI (typeOf Zf8>>= _) _ _ s;refine aj (wpAny_typeOf hTs ?_)
  first
    | rw[ae (by decide)]
    | refine aeJ (by decide) ?_
  rw[listSliceParts_eq];refine aj (aj (nI E5 L9 (x:=.none) rfl (aj (PZ .none ?_))));rw[ae amu];refine aj (nI E5 L9 (x:=vl) rfl (aj (PZ pl ?_)));refine aj (nI E5 L9 (x:=vu) rfl (aj (PZ pu Yw)))
  first
    | simp only[Ls,kg,i5]
    | refine aeJ Ls ?_
    | (dsimp only
       rw[ae (by rw[Ls];exact eh)])
  refine aj (m:=Builtin.List.listAllItems ZdA "must assign iterable to extended slice") ?_;unfold Builtin.List.listAllItems;refine aj (wpAny_typeOf hb.typeIs ?_)
  first
    | refine PySem.W.KFB.if_so (by decide) ?_
    | rw[af (by decide)]
    | simp only[r9,Bool.true_or,iD]
  unfold Builtin.List.listItems;refine aj (sC e2 rfl (aL ?_));refine aj (aj (sC e rfl (aL ?_)));refine aj (Cz ((sliceIndices_raw Zir Znw none items.size Zf).trans (cb (pure:Int×Int×Int->Sem (Int×Int×Int)) (arx hac hc))) ?_);show YI (if((1 :Int)==1)=true then _ else _) _ _ s;rw[af Zj];refine aj (Hy ?_)
  first
    | simp only[Ej hsz,kg,i5]
    | refine aeJ (Ej hsz) ?_
  first |refine aj (aL ?_)|skip
  show YI (updateSeq l (λxs=>xs.extract 0 ((a:Int)).toNat ++new++xs.extract (max (a:Int) (c:Int)).toNat xs.size)>>= _) _ _ s;rw[amY,mD];refine aj (wpAny_updateSeq (hz:=cq (y9 _ _) hsz) (_hz':=br) e rfl ?_);refine aj (HE ?_)
  first
    | exact aj (aL (aL ⟨.none,rfl,aL h⟩))
    | exact aL ⟨.none,rfl,aL h⟩
end
section
variable {X:Cx}
end
end L2
namespace L2
open PySem PySem.Spec PyProof.Rows
theorem Vals.ints:∀{ns:ZK} {us:Zp},Vals Ze7 us->IntsAre us ns
 |[],us,h=>by
  rw[vp]at h;cases h
  exact IntsAre.nil
 |n::ns,us,h=>by
  rw[cw]at h;cases h with
  |cons r t=>
   obtain⟨k,rfl⟩:=r;exact IntsAre.cons n k (Vals.ints t)
theorem agw:∀{us:Zp} {ns:ZK},IntsAre us ns->Vals Ze7 us
 |_,_,.nil =>by rw[vp];exact Paired.nil
 |_,_,.cons n t h=>by rw[cw];exact Paired.cons (show RelV (V.int n) (Value.int n t)from Vl) (agw h)
theorem Vals.Oe:∀{bs:List Bool} {us:Zp},Vals ZnR us->us=bs.map Value.bool
 |[],us,h=>by
  rw[vp]at h;cases h
  rfl
 |b::bs,us,h=>by
  rw[cw]at h;cases h with
  |cons r t=>
   cases r
   rw[Vals.Oe t,cw]
theorem Vals.J4{a:Addr}{us:Zp}(r:Vals [V.ref a] us):us=[Value.ref a]:=by
 cases r with
 |cons r t=>
  cases t
  cases r
  rfl
section
variable {prog:Program}{w:World}{A:Around}{E:Zu}{s:Shared}{l:Addr}{its:Zp}{ns:ZK}{Q:Zu}
theorem ag7(hh:Vc)(hl:Ze4 its.toArray)(hi:IntsAre its ns)
  (h:∀h' tk t',(∀b o,s.heap.get? b=some o->h'.get? b=some o)->Q (.int ns.sum t') {s with heap:=h',toks:=tk}):YF (call ZhY [.ref l]) Q E s:=by
 obtain⟨xs,e⟩:=hi.allInts.items;have hn:numsOf (intItems xs).toList =ns:=by rw[←e];exact hi.numsOf
 rw[nums_intItems]at hn;rw[e]at hl;refine PySem.sum_intListG hh hl λh' tk t' hk=>?_;have:=h h' tk t' hk;rw[preSum_eq,vn Zf,hn];exact this
end
section
variable {X:Cx}
def tD(K:PySem.W.Frag):Ze->Hp->VK->Prop:=λvs H Q=>∃(a:Addr) (ns:ZK),vs=[V.ref a]/\Y2 a Ze7/\Q (.int ns.sum) H
theorem aqv(hc:XA):gJ X ZhY (tD X.K):=by intro pins s σ H vs us Q I r h;obtain⟨a,ns,rfl,hs,q⟩:=h;obtain⟨its,rv,hl,_⟩:=I.list hs;rw[Vals.J4 r];exact ag7 YR hl.isList rv.ints λh' tk t' hk=>⟨.int _,H,I.kept hk,Zs,q⟩
end
section
variable {X:Cx}
def J8(K:PySem.W.Frag):V->Ze->Hp->VK->Prop:=λx xs H Q=>∃(a:Addr) (ys:Ze) (y:V) (j:Nat) (z:V),x=V.ref a/\xs=[y]/\Y2 a ys/\il y=true/\ys.all il=true/\ys[j]? =some z/\jG z y=true/\
 (∀(m:Nat) (z':V),m<j->ys[m]? =some z'->jG z' y=false)/\Q (.int (j:Nat)) H
theorem adp{ys:Ze}(f:ys.all il=true){j:Nat}{z:V}(h:ys[j]? =some z):il z=true:=dh.mp f z (bI h)
theorem akZ:oP X "list.index" (J8 X.K):=by
 intro pins s σ H x xs v us Q I rx rxs h;obtain⟨a,ys,y,j,z,rfl,rfl,hs,fy,yC,hz,hzj,gD,q⟩:=h;cases rx
 cases rxs with
 |cons ry rt=>
  rename_i uy ut;cases rt
  ext bQ;obtain⟨u,hu,ru⟩:=rv.get hz;obtain⟨hjl,hje⟩:=iQ.mp hu;have ET:=rv.length;have hj:j<its.toArray.size:=by simpa using hjl
  have Lr:=zL;refine qg Ga ⟨_,ho,rfl⟩ PySem.F.entry_list_index (PySem.F.args_list_index_2 _ _)
   (SeqAt.list_indexAt a its.toArray n dd sl uy (iL y) j hj Zb ?_ ?_) ZoK
  ·have e1:its.toArray[j]=u:=by simpa using hje
   rw[e1,Bw ru (adp yC hz)];exact hzj
  ·intro m hm hmj;have pR:m<its.length:=by simpa using hm
   have hmy:m<ys.length:=by omega
   have jX:ys[m]? =some ys[m]:=fP hmy;obtain⟨u2,pN,JT⟩:=rv.get jX;obtain⟨_,hme⟩:=iQ.mp pN;have e1:its.toArray[m]=u2:=by simpa using hme
   rw[e1,Bw JT (adp yC jX)];exact gD m _ hmj jX
  ·exact⟨.int (j:Nat),H,YJ,Zs,q⟩
end
section
variable {X:Cx}
end
theorem ab0{prog:Program}{w:World}{A:Around}{E:Zu}{s:Shared}{l:Addr}{items:YS}{Q:Zu}(hl:Ze4 items)
  (h:∀s₂:Shared,s₂={s with heap:=s.heap.push {cls:=.type "list_iterator",data:=.fields #[.ref l,.int 0 0]}}->
   (s₂.heap.IsListIter s.heap.objs.size l 0/\s₂.heap.IsList l items)->l≠s.heap.objs.size->Q (.ref s.heap.objs.size) s₂):wpAny (model prog w) A (pyIter (.ref l)) Q E s:=by
 have bG:l<s.heap.objs.size:=by obtain⟨_,e,_⟩:=hl;exact YL
 exact qB hl (h _ rfl ⟨Zcu,hl.push _⟩ (eB bG))
theorem Qc{prog:Program}{w:World}{A:Around}{bs:List Bool}{its:Zp}(e:its=bs.map Value.bool):
  TruthOf prog w A (λi v=>its.toArray[i]? =some v) Zlg:=λi v s Q E hv hq=>by
 have ig:its[i]? =some v:=by simpa using hv
 rw[e,cx]at ig;obtain⟨b,hb,rfl⟩:=Option.map_eq_some_iff.mp ig;have hg:bs.getD i false=b:=by rw[jL,hb]<;>rfl
 have cF:Q (bs.getD i false) s:=hq;rw[hg]at cF;exact qA cF
theorem any_range:∀bs:List Bool,(List.range bs.length).any Zlg=bs.any id
 |[]=>rfl
 |b::bs=>by
  rw[bb,O4,ke,vw,ke,←any_range bs]
  all_goals rfl
theorem all_range:∀bs:List Bool,(List.range bs.length).all Zlg=bs.all id
 |[]=>rfl
 |b::bs=>by
  rw[bb,O4,hZ,mB,hZ,←all_range bs]
  all_goals rfl
section
variable {X:Cx}
def tI(K:PySem.W.Frag):Ze->Hp->VK->Prop:=λvs H Q=>∃(a:Addr) (bs:List Bool),vs=[V.ref a]/\Y2 a ZnR/\Q (.bl (bs.any id)) H
def tJ(K:PySem.W.Frag):Ze->Hp->VK->Prop:=λvs H Q=>∃(a:Addr) (bs:List Bool),vs=[V.ref a]/\Y2 a ZnR/\Q (.bl (bs.all id)) H
theorem aqw(hc:XA):gJ X Zmt (tI X.K):=by
 ext bK;refine call_any_walk Zql;ext bD
 ·rcases aJ.mp jy with e1|jy
  ·exact absurd (e1▸bT eo) W5
  ·cases jy
 ·show Value.bool _=Value.bool _;rw[←any_range,hb,dR,aq]
theorem aqx(hc:XA):gJ X Zms (tJ X.K):=by
 ext bK;refine call_all_walk Zql;ext bD
 ·rcases aJ.mp jy with e1|jy
  ·exact absurd (e1▸bT eo) W5
  ·cases jy
 ·show Value.bool _=Value.bool _;rw[←all_range,hb,dR,aq]
end
mutual
inductive Dp(K:PySem.W.Frag)(H:Hp):V->PyData->Prop
 |ba:Dp K H .ba .none
 |bl (b:Bool):Dp K H (.bl b) (.bool b)
 |int (i:Int):Dp K H (.int i) (.int i)
 |str (x:Str):Dp K H (.str x) (.str x)
 |lst {a:Addr} {xs:List V} {ds:List PyData}:ag K H a xs->vD K H xs ds->Dp K H (.ref a) (.list ds)
 |tup {a:Addr} {xs:List V} {ds:List PyData}:bM K H a xs->vD K H xs ds->Dp K H (.ref a) (.tuple ds)
inductive vD(K:PySem.W.Frag)(H:Hp):Ze->List PyData->Prop
 |nil:vD K H [] []
 |cons {v:V} {vs:List V} {d:PyData} {ds:List PyData}:Dp K H v d->vD K H vs ds->vD K H (v::vs) (d::ds)
end
section
variable {X:Cx}{pins:Zx}{σ:St}{H:Hp}{s:Shared}
mutual
theorem Dp.reads(I:Zg):∀(d:PyData) (v:V) (u:Value),Dp X.K H v d->XQ->∃as,Reads s.heap u d as
 | .none,_,_,h,r=>by
  cases h
  cases r
  exact⟨_,Reads.none⟩
 | .bool b,_,_,h,r=>by
  cases h
  cases r
  exact⟨_,Reads.bool b⟩
 | .int i,_,_,h,r=>by
  cases h
  ext A;exact⟨_,Reads.int i t⟩
 | .str x,_,_,h,r=>by
  cases h
  ext A;exact⟨_,Reads.str x t⟩
 | .list ds,_,_,h,r=>by
  cases h with
  |lst hs ha=>
   cases r
   obtain⟨its,rv,⟨o,n,ho,hc,_,hd⟩,_⟩:=I.list hs;obtain⟨as,hr⟩:=Zl9 its ha rv;exact⟨_,Reads.list ho hc hd hr⟩
 | .tuple ds,_,_,h,r=>by
  cases h with
  |tup hs ha=>
   cases r
   obtain⟨its,rv,⟨o,ho,hc,n,hd⟩,_⟩:=I.tuple hs;obtain⟨as,hr⟩:=Zl9 its ha rv;exact⟨_,Reads.tuple ho hc hd hr⟩
 | .dict _,_,_,h,_=>by cases h
theorem Dp.readsAll(I:Zg):∀(ds:List PyData) (vs:Ze) (us:Zp),vD X.K H vs ds->ZaI->∃as,ReadsAll s.heap us ds as
 |[],_,_,h,r=>by
  cases h
  cases r
  exact⟨_,ReadsAll.nil⟩
 |d::ds,_,_,h,r=>by
  cases h with
  |cons h1 h2=>
   cases r with
   |cons r1 r2=>
    obtain⟨as,q1⟩:=ZfS d _ _ h1 r1;obtain⟨bs,q2⟩:=Zl9 _ h2 r2;exact⟨_,ReadsAll.cons q1 q2⟩
end
end
section
variable {X:Cx}
def ahZ(K:PySem.W.Frag):R2:=λx y H Q=>∃d e,Dp K H x d/\Dp K H y e/\SeqAt.shaped d=true/\SeqAt.shaped e=true/\Q (.bl (!PyData.eqv d e)) H
theorem aiR(hu:Zmh):Zlb (ahZ X.K):=by intro pins s σ H x y v u Q I rx ry h;obtain⟨d,e,hd,he,sd,se,q⟩:=h;obtain⟨as,r1⟩:=ZfS d x v hd rx;obtain⟨bs,r2⟩:=ZfS e y u he ry;exact SeqAt.compareNe_shaped r1 r2 sd se hu ⟨.bl _,H,I,rfl,q⟩
end
end L2
namespace L2
open PySem PySem.Spec PyProof.Rows
abbrev afX(h:Heap)(c:Addr)(v:Zad):Prop:=h.IsCell c v
def ahT(scope sc:Scope):Scope:=
 {scope with names:=scope.names.map λ(n,k)=>if(k==.free &&sc.kind==.function &&sc.names.lookup n==some .cell)then(n,.cell)else(n,k)}
def gI(cells:Y3):VB->Y3->List Zjq
 |[],acc=>acc
 |(n,k)::r,acc=>if k==.free then gI cells r ((n,(cells.lookup n).getD 0)::acc)else gI cells r acc
theorem ad7(env:Env)(f:Str×NameKind->Y3->Sem (ForInStep Y3))
  (hf:∀n k c,f (n,k) c=if k==.free then(do let a←cellOf env n;pure (.yield ((n,a)::c)))else pure (.yield c)):
  ∀(names:VB) (acc:Y3),(∀y∈names,y.2=.free ->∃c,env.cells.lookup y.1=some c)->forIn names acc f=pure (gI env.cells names acc)
 |[],acc,_=>by rw[O_];rfl
 |(n,k)::r,acc,h=>by
  rw[afD,hf];have ih:=λacc=>ad7 env f hf r acc λy hy=>h y ZdI;unfold gI;by_cases hk:(k==NameKind.free)=true
  ·rw[af hk,af hk];obtain⟨c,hc⟩:=h (n,k) aY (by simpa using hk);have e:cellOf env n=pure c:=by unfold cellOf;rw[hc]
   rw[e];have e2:(env.cells.lookup n).getD 0=c:=by rw[hc];rfl
   rw[e2];exact ih _
  ·rw[ae hk,ae hk];exact ih _
theorem aqM{scope:Scope}{env:Env}(h:∀y∈scope.names,y.2=.free ->∃c,env.cells.lookup y.1=some c):closureFor scope env=pure (gI env.cells scope.names []):=by simp only[closureFor];rw[ad7 env _ (λn k c=>rfl) scope.names [] h];rfl
theorem KW{α:Type}:∀{l:List (Str×α)} {n:Str} {c:α},(n,c)∈l->∃c',l.lookup n=some c'
 |(k,v)::r,n,c,h=>by
  rw[zb];cases hb:n==k with
  |true=>exact Zs
  |false=>
   rcases aJ.mp h with e|h
   ·cases e;simp at hb
   ·exact KW h
theorem FW{cells:Y3}:∀{names:VB} {acc:Y3} {n:Str} {c:Addr},(n,c)∈ZnV acc->(n,c)∈acc∨((n,.free)∈names/\c=(cells.lookup n).getD 0)
 |[],_,_,_,h=>XN
 |(m,k)::r,acc,n,c,h=>by
  unfold gI at h;split at h
  ·rename_i hk;have hk:k=.free :=by simpa using hk
   rcases FW h with h|⟨h1,h2⟩
   ·rcases aJ.mp h with e|h
    ·cases e;exact .inr ⟨hk▸aY,rfl⟩
    ·exact XN
   ·exact .inr ZnC
  ·rcases FW h with h|⟨h1,h2⟩
   ·exact XN
   ·exact .inr ZnC
theorem N1{cells:Y3}:∀{names:VB} {acc:Y3} {p:Zjq},p∈acc->p∈ZnV acc
 |[],_,_,h=>h
 |(m,k)::r,acc,p,h=>by
  unfold gI;split
  ·exact N1 (ZD h)
  ·exact N1 h
theorem N0{cells:Y3}:∀{names:VB} {acc:Y3} {n:Str},(n,.free)∈names->(n,(cells.lookup n).getD 0)∈ZnV acc
 |(m,k)::r,acc,n,h=>by
  unfold gI;rcases aJ.mp h with e|h
  ·cases e
   exact N1 aY
  ·split
   ·exact N0 h
   ·exact N0 h
theorem BG:∀{names:VB} {h:Heap} {acc:Y3} {x:Str} {c:Addr},(x,c)∈ZkE acc->
  (x,c)∈acc∨((x,.cell)∈names/\h.objs.size<=c/\afX (pushCells h names) c none)
 |[],_,_,_,_,h=>XN
 |(n,k)::r,h,acc,x,c,hm=>by
  unfold cellsFrom at hm;unfold pushCells;split at hm
  ·rename_i hk;rw[af hk];have hk:k=.cell :=by simpa using hk
   rw[←gb h {cls:=.type "cell",data:=.cell none}]at hm;rcases BG hm with hm|⟨h1,h2,h3⟩
   ·rcases aJ.mp hm with e|hm
    ·cases e
     exact .inr ⟨hk▸aY,ZC,_,Kc r _ _ _ ZcY,rfl⟩
    ·exact .inl hm
   ·rw[gb]at h2;exact .inr ⟨ZD h1,OW h2,h3⟩
  ·rename_i hk;rw[ae hk];rcases BG hm with hm|⟨h1,h2,h3⟩
   ·exact .inl hm
   ·exact .inr ⟨ZD h1,h2,h3⟩
theorem FZ:∀{names:VB} {n:Nat} {acc:Y3} {p:Zjq},p∈acc->p∈cellsFrom n names acc
 |[],_,_,_,h=>h
 |(m,k)::r,n,acc,p,h=>by
  unfold cellsFrom;split
  ·exact FZ (ZD h)
  ·exact FZ h
theorem N5:∀{names:VB} {n:Nat} {acc:Y3} {x:Str},(x,.cell)∈names->∃c,(x,c)∈cellsFrom n names acc
 |(m,k)::r,n,acc,x,h=>by
  unfold cellsFrom;rcases aJ.mp h with e|h
  ·cases e
   exact⟨n,FZ aY⟩
  ·split
   ·exact N5 h
   ·exact N5 h
theorem N4:∀{names:VB} {h:Heap} {acc:Y3} {x y:Str} {c:Addr},(∀p∈acc,p.2<h.objs.size)->(∀x y c,(x,c)∈acc->(y,c)∈acc->x=y)->
  (x,c)∈ZkE acc->(y,c)∈ZkE acc->x=y
 |[],_,_,_,_,_,_,hi,h1,h2=>hi _ _ _ h1 h2
 |(n,k)::r,h,acc,x,y,c,hl,hi,h1,h2=>by
  unfold cellsFrom at h1 h2;split at h1
  ·rename_i hk;rw[af hk]at h2;rw[←gb h {cls:=.type "cell",data:=.cell none}]at h1 h2;refine N4 (h:=h.push _) (λp hp=>?_) (λx y c a b=>?_) h1 h2
   ·rw[gb];rcases aJ.mp hp with rfl|hp
    ·exact Cd _
    ·exact Ce (hl p hp)
   ·rcases aJ.mp a with e|a<;>rcases aJ.mp b with e'|b
    ·cases e;cases e';rfl
    ·cases e;exact absurd (hl _ b) W5
    ·cases e';exact absurd (hl _ a) W5
    ·exact hi _ _ _ a b
  ·rename_i hk;rw[ae hk]at h2;exact N4 hl hi h1 h2
theorem akN{M:Model}{A:Around}{E:Zu}{s:Shared}{scope:Scope}{globals:Addr}{closure:Y3}{qual:Str}{func:Wt}{code:Value}{around:Env}{builtins:Addr}{Q:Env->Shared->Prop}
  (h:Q (newEnv scope s.heap.objs.size globals (ZkS closure) qual func code (some around) builtins)
   {s with heap:=pushCells (s.heap.push {cls:=.type "dict",data:=.dict #[]}) scope.names}):
  wpAny M A (newFunctionEnv scope globals closure [] qual func code (some around) builtins) Q E s:=by
 simp only[newFunctionEnv,Option.isSome_some,iD];refine aj (wpAny_alloc ?_);refine aj (wpAny_layCells _ (λn k c=>rfl) scope.names closure _ _ ?_);rw[show({s with heap:=s.heap.push {cls:=.type "dict",data:=.dict #[]}}:Shared).heap.objs.size =s.heap.objs.size+1 from gb ..];rw[O_];exact aj (aL (aL h))
theorem K2{sc:Scope}:∀{names:VB} {x:Str} {k:NameKind},
  (names.map λ(n,k)=>if(k==NameKind.free&&sc.kind==.function &&sc.names.lookup n==some .cell)then(n,NameKind.cell)else(n,k)).lookup x=some k->
  ∃k',names.lookup x=some k'/\(k=k'∨(k'=.free /\k=.cell))
 |[],_,_,h=>by simp at h
 |(n,k₀)::r,x,k,h=>by
  have ih:=@K2 sc r x k;have h':List.lookup x ((if(k₀==NameKind.free&&sc.kind==.function &&sc.names.lookup n==some .cell)=true then(n,NameKind.cell)else(n,k₀))::(r.map _))=some k:=h;cases hx:x==n with
  |true=>
   ext bP
   ·rw[af hc]at h';ext aE;cases h'
    simp only[aQ,oK]at hc;exact⟨k₀,rfl,.inr ⟨hc.1.1,rfl⟩⟩
   ·rw[ae hc]at h';ext aE;cases h'
    exact⟨_,rfl,.inl rfl⟩
  |false=>
   ext bP
   ·rw[af hc]at h';ext aE;exact ih h'
   ·rw[ae hc]at h';ext aE;exact ih h'
structure cB(N:Zc)(sc scope:Scope)(own:Zau):Prop where
 kind:scope.kind=.function
 uniq:∀y∈scope.names,scope.names.lookup y.1=some y.2
 ix:∀p∈own,N[p.2]? =some p.1
 free:∀y∈scope.names,y.2=.free ->sc.names.lookup y.1=some .cell ∨sc.names.lookup y.1=some .free
 own:∀y∈scope.names,y.2=.local ∨y.2=.cell ->y.1∈own.map Zh∨y.1∉N
def wipe(σ:St):Za->St
 |[]=>σ
 |v::vs=>(XT vs).set v none
theorem HN(σ:St):∀vs:List Nat,(XT vs).length =σ.length
 |[]=>rfl
 |v::vs=>by unfold wipe;rw[afu,HN σ vs]
theorem HM{σ:St}{i:Nat}{x:V}:∀{vs:Za},(XT vs)[i]? =some (some x)->σ[i]? =some (some x)/\i∉vs
 |[],h=>⟨h,Zf⟩
 |v::vs,h=>by
  unfold wipe at h;by_cases hi:v=i
  ·subst hi;by_cases hv:v<(XT vs).length
   ·rw[Hb hv]at h;cases h
   ·rw[Cp (by simpa using hv)]at h;cases h
  ·rw[Co hi]at h;obtain⟨h1,h2⟩:=HM h;exact⟨h1,by simp only[aJ,not_or];exact⟨λe=>hi e.symm,h2⟩⟩
abbrev Cx.gu(X:Cx)(s:Shared)(H:Hp)(scope:Scope)(ei:Env)(fp:Zz):Cx:={X with gM:=s,vA:=H,env:=ei,outer:=X.stack,ex:=fp,fn:=λx=>scope.names.lookup x==some .cell,pn:=[],xe:=λ_ _=>False}
section
variable {X:Cx}{pins:Zx}{σ:St}{H:Hp}{s:Shared}
theorem arA{scope:Scope}{own:Zau}{fp:Zz}(I:Zg)(ok:Zek)(hN:X.N.Nodup)(oA:∀b∈fp,Vp H b/\b<s.heap.objs.size):
  Inv (X.gu s H scope (Zog X.env) fp) [] (XT Zfe) H {s with heap:=pushCells (s.heap.push {cls:=.type "dict",data:=.dict #[]}) scope.names}:=by
 have rO:∀y∈scope.names,y.2=.free ->∃c,X.env.cells.lookup y.1=some c:=λy hy e=>by
  rcases ok.free y hy e with k|k
  ·exact Zjs ZdS
  ·exact Zjs (.inr k)
 generalize Bb:Zog X.env=ei;have kp:∀b o,s.heap.get? b=some o->(Zo4 scope.names).get? b=some o:=λb o e=>Kc _ _ _ _ XU;have hL:ei.locals=s.heap.objs.size:=by rw[←Bb];rfl
 have kJ:ei.cells=ZkS Zkk:=by rw[←Bb];rfl
 have xH:ei.scope=ahT scope X.env.scope:=by rw[←Bb];rfl
 rw[←gb s.heap {cls:=Zax,data:=.dict #[]}]at kJ;have cm:∀{y c},(y,c)∈gI X.env.cells scope.names []->X.env.cells.lookup y=some c/\c<s.heap.objs.size:=λ{y c} hm=>by
  rcases FW hm with hm|⟨h1,rfl⟩
  ·cases hm
  ·obtain⟨c,hc⟩:=rO _ h1 rfl;rw[hc];obtain⟨w,z⟩:=I.cell _ _ hc;exact⟨rfl,z.lt⟩
 have mem:∀{y c},ei.cells.lookup y=some c->(X.env.cells.lookup y=some c/\c<s.heap.objs.size)∨(s.heap.objs.size+1<=c/\afX (Zo4 scope.names) c none):=λ{y c} e=>by
  rw[kJ]at e;rcases BG (kP e)with hm|⟨_,h2,h3⟩
  ·exact .inl (cm hm)
  ·rw[gb]at h2;exact .inr ⟨h2,h3⟩
 have look:∀{y},scope.names.lookup y=some .free ->∃c,ei.cells.lookup y=some c/\X.env.cells.lookup y=some c:=λ{y} hl=>by
  have hy:(y,NameKind.free)∈scope.names:=kP hl;obtain⟨c',e'⟩:=KW (FZ (names:=scope.names) (n:=(s.heap.push {cls:=Zax,data:=.dict #[]}).objs.size) (N0 (cells:=X.env.cells) (acc:=[]) hy));rw[←kJ]at e';refine⟨c',e',?_⟩;rw[kJ]at e';rcases BG (kP e')with hm|⟨h1,_,_⟩
  ·exact(cm hm).1
  ·have:=ok.uniq _ h1;rw[hl]at this;cases this
 have okB:(X.gu s H scope ei fp).Ok :=by
  refine⟨I.ok.mod,by show ei.scope.kind=_;rw[xH];exact ok.kind,by show ei.globals=_;rw[←Bb];exact I.ok.glob,by show ei.builtins=_;rw[←Bb];exact I.ok.blt,by show s.heap.objs.size<=ei.locals;rw[hL];exact ZC,
   λy z c e1 e2=>?_,λy hy=>?_,λy c z e=>?_,I.ok.hd,I.ok.frames,.inl rfl,λb hb=>⟨?_,λy c e z=>?_⟩,I.bs,cq I.ok.oJ I.sz,λb o e hb=>?_,λb hb z=>?_,I.stack,I.Qv⟩
  ·have e1:ei.cells.lookup y=some c:=e1;have e2:ei.cells.lookup z=some c:=e2;rw[kJ]at e1 e2;refine N4 (λp hp=>?_) (λy z c a b=>I.ok.inj y z c (cm a).1 (cm b).1) (kP e1) (kP e2);rw[gb];exact Ce (cm (y:=p.1) (c:=p.2) hp).2
  ·show∃c,ei.cells.lookup y=some c;have key:∀k,ei.kindOf y=some k->(k=.cell ∨k=.free)->∃c,ei.cells.lookup y=some c:=λk hk oy=>by
    unfold Env.kindOf at hk;rw[xH]at hk;obtain⟨k',e,r⟩:=K2 hk;have:k'=.cell ∨k'=.free :=by
     rcases r with rfl|⟨rfl,_⟩
     ·exact oy
     ·exact .inr rfl
    rcases this with rfl|rfl
    ·obtain⟨c,hm⟩:=N5 (n:=(s.heap.push {cls:=Zax,data:=.dict #[]}).objs.size) (acc:=gI X.env.cells scope.names []) (kP e);obtain⟨c',e'⟩:=KW hm;exact⟨c',by rw[kJ];exact e'⟩
    ·obtain⟨c,h1,_⟩:=look e;exact⟨c,h1⟩
   rcases hy with hy|hy
   ·exact key _ hy Xf
   ·exact key _ hy Zdm
  ·have z:(scope.names.lookup y==some NameKind.cell)=true:=z;have z:scope.names.lookup y=some .cell :=by simpa using z
   ext al;rw[kJ]at e;rcases BG (kP e)with hm|⟨_,h2,_⟩
   ·rcases FW hm with hm|⟨h1,_⟩
    ·cases hm
    ·have q:=ok.uniq _ h1;rw[z]at q;cases q
   ·rw[gb]at h2;exact OW h2
  ·show b≠ei.locals;rw[hL];exact eB (oA b hb).2
  ·ext al;rcases mem e with⟨h1,_⟩|⟨h1,_⟩
   ·exact(oA b hb).1.2.2.2.2.1 y c h1 z
   ·have h2:s.heap.objs.size+1<=b:=by rw[←z];exact h1
    exact absurd (hX (oA b hb).2 (OW h2)) W5
  ·rcases(oA b hb).1.2.2.2.1 with z|z
   ·exact Zng z
   ·exact absurd (hX YL (Zjw z)) W5
  ·rcases aJ.mp (I.Ii b z)with z|z
   ·exact(oA b hb).1.2.1 z
   ·exact(oA b hb).1.2.2.1 z
 refine⟨okB,rfl,I.bare,Un.kept kp,⟨λ_=>none,?_,λi y av e1 e2 e3=>?_⟩,λy c e=>?_,?_,λy c e=>?_,λp hp=>?_,I.aC.kept kp,by rw[HN];exact I.len⟩
 ·show Heap.Ns _ ei.locals _;rw[hL];exact Heap.Ns.keeps (Heap.Ns.new ..) λb o e=>Kc _ _ _ _ e
 ·obtain⟨e2,aK⟩:=HM e2;have jA:scope.names.lookup y=some .free /\(ei.kindOf y=some .cell ∨ei.kindOf y=some .free):=by
   have key:∀k,ei.scope.names.lookup y=some k->k=.local ∨k=.cell ∨k=.free ->scope.names.lookup y=some .free /\(ei.kindOf y=some .cell ∨ei.kindOf y=some .free):=λk hk oy=>by
    have ng:=hk;rw[xH]at hk;obtain⟨k',e,r⟩:=K2 hk;have no:¬(k'=.local ∨k'=.cell):=λhh=>by
     rcases ok.own _ (kP e) hh with e'|e'
     ·obtain⟨p,hp,hpy⟩:=aO.mp e';have e3:=ok.ix p hp;have:p.1=y:=hpy;rw[this]at e3;exact aK (aO.mpr ⟨p,hp,Kw hN e3 e1⟩)
     ·exact e' (bI e1)
    rcases r with rfl|⟨rfl,rfl⟩
    ·rcases oy with rfl|rfl|rfl
     ·exact absurd Xf no
     ·exact absurd Zdm no
     ·exact⟨e,.inr ng⟩
    ·exact⟨e,.inl ng⟩
   have e3:yM ei.scope y:=e3;rcases e3 with e3|e3|e3
   ·exact key _ e3 Xf
   ·exact key _ e3 (.inr Xf)
   ·exact key _ e3 (.inr Zdm)
  ext aw;have amn:Zfb y:=(ok.free _ (kP jA.1) rfl).elim (λk=>.inr ZdS) (λk=>.inr (.inr k));obtain⟨w,r,q⟩:=hl i y av e1 e2 amn;refine⟨w,r,.inr ⟨jA.2,?_⟩⟩;obtain⟨c,h1,h2⟩:=look jA.1;rcases q with⟨k,_⟩|⟨_,c',e',z⟩
  ·have k:X.env.scope.names.lookup y=some .local :=k;rcases ok.free _ (kP jA.1) rfl with k'|k'<;>rw[show X.env.scope.names.lookup y=_ from k']at k<;>cases k
  ·rw[h2]at e';cases e';exact⟨c,h1,z.keeps kp⟩
 ·ext al;rcases mem e with⟨h1,_⟩|⟨_,z⟩
  ·obtain⟨w,z⟩:=I.cell y c h1;exact⟨w,z.keeps kp⟩
  ·exact⟨_,z⟩
 ·show H ei.locals=none;rw[hL];exact X1
 ·ext al;rcases mem e with⟨h1,_⟩|⟨h1,_⟩
  ·exact I.lE y c h1
  ·exact I.aC.fresh (OW h1)
 ·exact ZoU
theorem ar0{E:Zu}{D:Addr}{xs:Ze}{y:V}{v:Value}{Q:Zu}(I:Zg)(hD:H D=some Yq)(hz:xs.length<sizeLine)(r:RelV y v)
  (h:∀s',ZU (Zw D (.lst (xs++[y]))) s'->Q .none s'):Yx (call (.builtin "list.append") [.ref D,v]) Q E s:=by
 obtain⟨br,its,n,ri,e⟩:=I.aC D _ hD;have hl:=ri.length;refine append_at (hsz:=by rw[dR];omega) e λh' sb kE=>?_;refine h {s with heap:=h'} (I.write (t':=s.toks) (by rw[hD];trivial) Xf (λb u hb q=>(sb.2 b hb).trans q) ⟨_,kE⟩ ⟨by rw[bS];exact hz,its++[v],n+1,ri.append (.cons r .nil),?_⟩);rw[kE];simp
def y6(X:Cx)(ifs:Ya)(t:TT):Prop:=
 ∀(pins:Zx) (s:Shared) (σ:St) (H:Hp) (Q:ZeW),Zg->Zca->
  wpAny Yf X.A (forIn ifs true λc r=>if r=true then do let ok←isTrue c X.env (eval c X.env);pure (ForInStep.yield ok)else ZtM) Zh1 X.xe s
def vN:TT:=λ_ H Q=>Q true H
theorem fU:y6 X [] vN:=λ_ _ _ H _ I h=>wpAny_tests_nil ⟨H,I,h⟩
theorem iX{c:Expr}{t:TT}(h:PT X c t):y6 X [c] t:=λpins s σ H Q I hw=>wpAny_tests_one (UA H Q I hw)
end
theorem vM{α:Type}{t:Sem α}{Q Q':Zmm}{M:Model}{A:Around}{E:Zu}{s:Shared}(h:Vm t Q ZeQ s)(hQ:∀a s,Q a s->Q' a s):Vm t Q' E s:=gL h hQ λ_ _ z=>ZiX
theorem aqE{prog:Program}{w:World}{A:Around}{R:Zho}{s:Shared}{elt target iter:Expr}{ifs:Ya}{scope:Scope}{pos:Pos}{it acc:Value}{env:Env}(I:Nat->Shared->Prop)
  (turn:∀n s,I n s->YF (pyNext it) (λr s₁=>match r with
   |none=>R (.ok .next) s₁
   |some v=>YF (letOwnedTupleGo target it v) (λ_ Qo=>YF (assign target env v) (λ_ s₂=>
     wpAny Y5 A (forIn ifs true λc r=>if r=true then do let ok←isTrue c env (eval c env);pure (ForInStep.yield ok)else ZtM) (λok s₃=>
      if ok=true then YF (eval elt env) (λx s₄=>
       wpAny (model prog w) A (call (.builtin "list.append") [acc,x]) (λ_ s₅=>∃m,m<n/\I m s₅) (notedBy (model prog w) A env λe s'=>R (.error e) s') s₄) (notedBy (model prog w) A env λe s'=>R (.error e) s') s₃
      else∃m,m<n/\I m s₃) (notedBy (model prog w) A env λe s'=>R (.error e) s') s₂) (notedBy (model prog w) A env λe s'=>R (.error e) s') Qo) (notedBy (model prog w) A env λe s'=>R (.error e) s') s₁) (notedBy (model prog w) A env λe s'=>R (.error e) s') s)
  (n:Nat) (h:I n s):
  codeAny Y5 A (.compLoop ZoX 0 it acc env) R s:=by
 refine codeAny_loop rfl I (λn s hI=>?_) n h;show wpAny _ A ((compTurn ZoX 0 it acc env).onRaise (λx=>do noteFrame x env;theTreesLotGoes x)) _ _ s;refine wpAny_noted ?_;rw[compTurn_list];refine aj (Cv (aj (gL (turn n s hI) (λr s₁ h₁=>?_) λ_ _ h'=>h')));cases r with
 |none=>exact aL h₁
 |some v=>
  refine aj (gL h₁ (λ_ Qo h₁'=>?_) λ_ _ h'=>h');refine aj (gL h₁' (λ_ s₂ h₂=>aj (gL h₂ (λok s₃ h₃=>?_) λ_ _ h'=>h')) λ_ _ h'=>h');cases ok with
  |false=>exact aL ⟨rfl,h₃⟩
  |true=>
   exact aj (aj (gL h₃ (λx s₄ h₄=>aj (gL h₄ (λ_ s₅ h₅=>aL (aL ⟨rfl,h₅⟩)) λ_ _ h'=>h')) λ_ _ h'=>h'))
section
variable {X:Cx}
def vZ(wi:TI)(g:TG)(tt:TT)(te:TE)(vs:Za):TE:=fun σ H Q=>wi σ H λJ H1=>∀D,H1 D=none->∃W:Nat->Nat->Hp->Prop,(∃m,ZmF)/\∀i m H,W i m H->
 (ZdF H/\Q Vi H)∨(U2 H/\∃Nx:Hp->Prop,(∀H',Nx H'->∃m',m'<m/\W YU m' H')/\∀x H',Zaz->Zi3 H' fun σ2 H2=>wipe σ2 vs=XT vs/\tt σ2 H2 λb H3=>
  if b=true then te σ2 H3 λy H4=>∃acc,H4 D=some (.lst acc)/\acc.length<sizeLine/\Nx (upd H4 D (.lst (acc++[y])))else Nx H3)
theorem abC{pins:Zx}{s:Shared}{σ:St}{H:Hp}{Q:VK}{elt tg iter:Expr}{ifs:Ya}{scope:Scope}{own:Zau}{pos pos':Pos}{wi:TI}{g:TG}{tt:TT}{te:TE}{use:Option (Value->Sem Unit)}{Qf:Zu}
  (hc:XA) (hN:X.N.Nodup) (I:Zg) (hi:Ze0) (ok:Zek)
  (hg:ZgC) (ht:ZgB)
  (he:ZgA) (hs:∀x,Zel x=pure x)
  (h:Zej σ H Q)
  (hRR:∀D C s' m H',VQ->ZdH->s'.heap.Ns C m->Vp H' C->ZoE C (.ok .next) s'):
  wpAny Yf X.A (Zr4 pos' (newList []) false Zmk use) Qf X.xe s:=by
 have rO:∀y∈scope.names,y.2=.free ->∃c,X.env.cells.lookup y.1=some c:=λy hy e=>by
  rcases ok.free y hy e with k|k
  ·exact Zjs ZdS
  ·exact Zjs (.inr k)
 refine wpAny_comprehension_free (use:=use) rfl hs (aqM rO) ok.kind (λy hy e=>by rw[ok.uniq y hy,e])
  (aN Zld λxv s1 hx=>aN hx λLd s2 h2=>?_)
 obtain⟨it,fp,tn,J,H2,e,I2,T,CT,f2,q⟩:=h2;subst e;refine vJ (akN ?_) (by show 0<=sizeLine;decide);generalize hD:s2.heap.objs.size=D;have hDn:H2 D=none:=I2.aC.fresh (OX hD);obtain⟨W,⟨m0,w0⟩,turn⟩:=q D hDn;generalize hs3:({s2 with heap:=s2.heap.push {cls:=.type "list",data:=.seq ([]:List Value).toArray}}:Shared)=s3;have I3:ZU Zfz s3:=by rw[←hs3];refine I2.laid (t':=s2.toks) (λb o e=>XU) (OX hD) ⟨ZI,[],0,.nil,?_⟩;rw[←hD];exact dj _ rfl
 have h3:s3.heap=s2.heap.push {cls:=Yk,data:=.seq ([]:List Value).toArray}:=by rw[←hs3]
 have sz:∀b∈fp,b<s2.heap.objs.size:=λb hb=>by obtain⟨o,e,_⟩:=Zgi CT b hb;exact YL
 have f3:∀b∈fp,Vp Zfz b/\b<s3.heap.objs.size:=λb hb=>by have bG:=sz b hb;refine⟨⟨?_,(f2 b hb).2⟩,by rw[h3,gb];exact Ce bG⟩;rw[ax (by rw[←hD];exact eB bG)];exact(f2 b hb).1
 have CS:tn 0 s3.heap:=ZiY CT λb _ o e=>by rw[h3];exact XU
 have I4:=arA I3 ok hN f3;have pg:=hg s3 Zfz s3.heap.objs.size Zgy fp;have pt:=ht s3 Zfz s3.heap.objs.size Zgy fp;have pe:=he s3 Zfz s3.heap.objs.size Zgy fp;show codeAny _ _ (.compStart Zci 0 XJ Vi (Zqy X.env)) Ztd {s3 with heap:=pushCells (s3.heap.push {cls:=.type "dict",data:=.dict #[]}) scope.names};have nfp:∀b∈fp,(YD D Ye) b=none:=λb hb=>(f3 b hb).1.1;generalize gG:Zqy X.env=ce at I4 pg pt pe⊢;have cL:ce.locals=s3.heap.objs.size:=by subst gG;rfl
 generalize uM:YD D Ye=H3 at I3 I4 pg pt pe w0 nfp f3;generalize hs4:({s3 with heap:=pushCells (s3.heap.push {cls:=.type "dict",data:=.dict #[]}) scope.names}:Shared)=s4 at I4⊢;have Qy:tn 0 s4.heap:=ZiY CS λb _ o e=>by rw[←hs4];exact Kc _ _ _ _ XU
 have sU:∀{σ':St} {H':Hp} {s':Shared},Inv Zaf [] σ' H' s'->(∀b∈fp,H' b=none)->∀b∈fp,mF Zaf [] H' b:=λ{σ' H' s'} I' hn b hb=>
  ⟨hn b hb,(I'.ok.FO b hb).1,I'.ok.Bu b hb,.inl hb,λx c e=>(I'.ok.FO b hb).2 x c e,λp hp=>ZoU⟩
 have loop:codeAny Yf X.A (.compLoop Zci 0 XJ Vi ce) Ztd s4:=by
  refine aqE (λn s'=>∃i H',Inv Zaf [] (XT Zfe) H' s'/\tn i s'.heap/\(∀b∈fp,H' b=none)/\W i n H') ?_ m0 ⟨0,H3,I4,Qy,nfp,w0⟩;rintro n s5 ⟨i,H5,I5,st5,n5,w5⟩;rcases turn i n H5 w5 with⟨stop,qq⟩|⟨go,Nx,hNx,step⟩
  ·have td:=T.done Zaf rfl rfl rfl hc i [] s5 _ H5 ZeQ I5 (sU I5 n5) st5 stop;refine vM td λr s6 ⟨hr,I6⟩=>?_;subst hr;have I7:ZU H5 s6:=I3.arv (ch:=fp) I6.os I6.base I6.aC I6.bare λb hb=>⟨(f3 b hb).1.2.2.2.1,(f3 b hb).1.2.1,(f3 b hb).1.2.2.2.2.1,(f3 b hb).1.2.2.2.2.2⟩;have nC:H5 s3.heap.objs.size=none:=by have z:H5 ce.locals=none:=I6.free;rw[cL]at z;exact z
   obtain⟨m,hn,_⟩:=I6.loc;have hn:s6.heap.Ns ce.locals m:=hn;rw[cL]at hn;exact hRR D s3.heap.objs.size s6 m H5 I7 qq hn (I3.qe ZC nC)
  ·have ti:=T.item Zaf rfl rfl rfl hc i [] s5 _ H5 ZeQ I5 (sU I5 n5) st5 go;refine vM ti λr s6 ⟨u,hr,h6⟩=>?_;subst hr;refine vM h6 λ_ s7 ⟨x,H7,I7,r7,y7,st7,n7⟩=>?_;have I7':=I7.pinned (sU I7 n7) (Zgi st7);refine vM (pg _ s7 _ H7 x u _ I7' r7 (step x H7 y7)) λ_ s8 ⟨σ8,H8,I8,hw8,q8⟩=>?_;refine vM (pt _ s8 σ8 H8 _ I8 q8) λb s9 ⟨H9,I9,q9⟩=>?_;have fin:∀{s':Shared} {H':Hp},Inv Zaf ([]++Ag fp s7.heap) σ8 H' s'->Nx H'->∃m,m<n/\∃i H',Inv Zaf [] (XT Zfe) H' s'/\tn i s'.heap/\(∀b∈fp,H' b=none)/\W i m H':=λ{s' H'} I' nx=>by
    obtain⟨m',hm,w'⟩:=hNx H' nx;have aan:∀b∈fp,∀o,s7.heap.get? b=some o->s'.heap.get? b=some o/\H' b=none:=λb hb o e=>
     let z:=I'.pin (b,o) Zk4
     ⟨z.1,z.2.1⟩
    have hl:(XT Zfe).length =σ8.length:=by rw[←hw8,HN]
    refine⟨m',hm,i+1,H',(I'.CF (pins:=[])).weak hl (λj v e=>?_),ZiY st7 λb hb o e=>(aan b hb o e).1,λb hb=>?_,w'⟩
    ·rw[←hw8]at e;exact(HM e).1
    ·obtain⟨o,e,_⟩:=Zgi st7 b hb;exact(aan b hb o e).2
   cases b with
   |false=>
    simp only[kg,i5]at q9⊢;exact fin I9 q9
   |true=>
    simp only[iD]at q9⊢;refine vM (pe _ s9 σ8 H9 _ I9 q9) λz tm ⟨yv,H10,I10,r10,acc,hD10,xC,nx⟩=>?_;exact ar0 (X:=Zaf) I10 hD10 xC r10 λTw I11=>fin I11 nx
 exact codeAny_compStart_list loop (T.self X.A 0 _ _ _ Qy loop)
theorem dW{elt tg iter:Expr}{ifs:Ya}{scope:Scope}{own:Zau}{pos:Pos}{wi:TI}{g:TG}{tt:TT}{te:TE}(hc:XA)(hN:X.N.Nodup)(hi:Ze0)(ok:Zek)
  (hg:ZgC) (ht:ZgB)
  (he:ZgA) (hs:∀x,Zel x=pure x:=by intro _;rfl):
  PE X Zci Zej:=by
 ext f;rw[eval_ListComp];refine abC hc hN I hi ok hg ht he hs h λD C s' m H' I' q hn f=>⟨m,hn,λjF sb=>?_⟩;obtain⟨f0,f1,f2,f3,f4,f5⟩:=f;exact⟨Vi,H',I'.turned (t':=s'.toks) Zkd f0 f1 f3 f4 f5,rfl,q⟩
theorem ah8{i:Nat}{y:Str}{py:Pos}{elt tg iter:Expr}{ifs:Ya}{scope:Scope}{own:Zau}{pos CU:Pos}{wi:TI}{g:TG}{tt:TT}{te:TE}(hc:XA)(hN:X.N.Nodup)(hy:X.N[i]? =some y)(jr:X.env.scope.names.lookup y=some .local)
  (hsw:swapsWith Zci (some ZiL) CU.line X.env=pure true) (hi:Ze0) (ok:Zek)
  (hg:ZgC) (ht:ZgB)
  (he:ZgA) (hs:∀x,Zel x=pure x:=by intro _;rfl):
  PS X Zrq (nO Zej (lD i)):=by
 ext s;rw[exec_Assign_Name_used _ _ _ _ hsw];refine aj (Cv (aj ?_));show wpAny _ X.A (do let _←Zr4 (firstIterPos [⟨tg,iter,ifs,0⟩] pos) (newList []) false Zmk (some (assign ZiL X.env))) _ _ s;have h:Zej σ H (λx H1=>lD i x σ H1 D.nx):=h;refine aj (aN (abC (Qf:=λ_ s'=>Zfs .next s') hc hN I hi ok hg ht he hs h λL C s' m H' I' q hn f=>?_) λ_ s' hq=>aL (aL hq));show YI (assign ZiL X.env (.ref L)) _ _ _;refine wpAny_assign_Name (Qu (v:=V.ref L) I' hN hy (.inl jr) rfl (λs2 I2 ⟨a,sb,ha⟩=>?_) (.inr jr));obtain⟨f0,f1,f2,f3,f4,f5⟩:=f;have haC:C≠a:=by
  rcases ha with z|z
  ·rw[z];exact f1
  ·exact λe=>f4 y a z e.symm
 refine⟨m,hn.sameBut sb haC,λh3 IQ=>?_⟩;exact⟨_,H',I2.turned (t':=s2.toks) (λb o hb e=>(IQ.2 b hb).trans e) f0 f1 f3 f4 f5,q⟩
theorem ag6{elt:Expr}{gs:List Comprehension}{scope:Scope}{pos py:Pos}{y:Str}{l:Nat}{env:Env}(hk:env.scope.kind=.function)(hy:env.scope.names.lookup y=some .local)(hl:(py.line==pos.line)=true)
  (ha:(scope.names.any λ(n,k)=>n==y&&(k==.local ||k==.cell))=false):swapsWith (.ListComp elt gs scope pos) (some ZiL) l env=pure true:=by
 have ky:env.kindOf y=some .local :=hy;have hb:env.blockKind=.function :=by unfold Env.blockKind;rw[hk];rfl
 unfold swapsWith;simp only[hb,ky,ha,Expr.pos,hl];rfl
end
def aef(N:Zc)(sc scope:Scope)(own:Zau):Bool:=
 (match scope.kind with | .function =>true|_=>false)&&(scope.names.all λy=>decide (scope.names.lookup y.1=some y.2))&&(own.all λp=>decide (N[p.2]? =some p.1))&&
  (scope.names.all λy=>match y.2 with
   | .free =>(match sc.names.lookup y.1 with |some .cell =>true|some .free =>true|_=>false)
   | .local =>decide (y.1∈own.map Zh)||decide (y.1∉N)
   | .cell =>decide (y.1∈own.map Zh)||decide (y.1∉N)
   |_=>true)
theorem cP{N:Zc}{sc scope:Scope}{own:Zau}(h:aef N sc scope own=true):cB N sc scope own:=by
 unfold aef at h;simp only[aQ,dh,bX]at h;obtain⟨⟨⟨h1,h2⟩,h3⟩,h4⟩:=h;refine⟨?_,h2,h3,λy hy e=>?_,λy hy e=>?_⟩
 ·split at h1
  ·assumption
  ·cases h1
 ·have q:=h4 y hy;simp only[e]at q;split at q<;>first |exact .inl (by assumption)|exact .inr (by assumption)|cases q
 ·have q:=h4 y hy;rcases e with e|e<;>(simp only[e,h_,bX]at q;exact q)
end L2
namespace L2
open PySem PySem.Spec PyProof.Rows
section
variable {prog:Program}{w:World}{A:Around}{R:Zho}{s:Shared}{elt t0 i0 t1 i1:Expr}{atZ atY:Ya}{scope:Scope}{pos:Pos}{it acc:Value}{env:Env}
end
section
variable {X:Cx}
end
end L2
namespace L2
open PySem PySem.Spec PyProof.Rows
section
variable {κ:Type}[DecidableEq κ]
def eO(kvs:XI)(k:κ):ZM:=(kvs.find? λkv=>decide (kv.1=k)).map ZZ
def putK(kvs:XI)(k:κ)(v:V):XI:=
 if(kvs.any λkv=>decide (kv.1=k))=true then kvs.map (λkv=>if kv.1=k then(kv.1,v)else kv)else kvs++[(k,v)]
theorem zo{p:κ×V}{r:XI}{k:κ}(e:p.1=k):eO (p::r) k=some p.2:=by simp[eO,oR,e]
theorem sF{p:κ×V}{r:XI}{k:κ}(e:¬p.1=k):eO (p::r) k=eO r k:=by simp[eO,oR,e]
theorem HR(k:κ):∀kvs:List (κ×V),(kvs.any λkv=>decide (kv.1=k))=(W4 k).isSome
 |[]=>rfl
 |p::r=>by
  rw[ke];ext V
  ·simp only[zo e,bu e,Bool.true_or,Option.isSome_some]
  ·rw[sF e,aX e,Hq];exact HR k r
theorem K6(kvs:XI)(k:κ)(v:V):(Vn k v).length <=kvs.length+1:=by
 unfold putK;split
 ·rw[aq];omega
 ·rw[bS,bb,jK];omega
theorem ah4{kvs:XI}{k:κ}(v:V)(h:W4 k=none):Vn k v=kvs++[(k,v)]:=by unfold putK;rw[HR,h];exact ae Zj
theorem jJ.Le{o:ZM}{u:Zad}(r:jJ o u):o.isSome=u.isSome:=by
 cases o with
 |none=>cases u with
  |none=>rfl
  |some _=>exact(show False from r).elim
 |some _=>cases u with
  |none=>exact(show False from r).elim
  |some _=>rfl
theorem jJ.getD{o:ZM}{u:Zad}{d:V}{d':Value}(r:jJ o u)(rd:RelV d d'):RelV (o.getD d) (u.getD d'):=by
 cases o with
 |none=>cases u with
  |none=>exact rd
  |some _=>exact(show False from r).elim
 |some _=>cases u with
  |none=>exact(show False from r).elim
  |some _=>exact r
theorem KV.val{kvs:XI}{vs:Zap}(r:XM)(k:κ):jJ (W4 k) (valueAt vs k):=by
 unfold KV at r
 induction r with
 |nil=>exact True.intro
 | @cons p q ps qs h t ih=>
  obtain⟨h1,h2⟩:=h;ext V
  ·have e':q.1=k:=Zh4;have b:valueAt (q::qs) k=some q.2:=by simp[valueAt,oR,e']
   rw[zo e,b];exact h2
  ·have e':¬q.1=k:=λz=>Ziw;have b:valueAt (q::qs) k=valueAt qs k:=by simp[valueAt,oR,e']
   rw[sF e,b];exact ih
theorem KV.any{kvs:XI}{vs:Zap}(r:XM)(k:κ):(kvs.any λkv=>decide (kv.1=k))=vs.any λkv=>decide (kv.1=k):=by
 unfold KV at r
 induction r with
 |nil=>rfl
 |cons h t ih=>rw[ke,ke,ih,h.1]
theorem KV.J0{kvs:XI}{vs:Zap}(r:XM)(k:κ){y:V}{u:Value}(ry:XC):
  KV Zpa (vs.map λkv=>if kv.1=k then(kv.1,u)else kv):=by
 unfold KV at r⊢
 induction r with
 |nil=>exact .nil
 | @cons p q ps qs h t ih=>
  rw[cw,cw];refine .cons ?_ ih;obtain⟨h1,h2⟩:=h;ext V
  ·rw[af e,af Zh4];exact⟨h1,ry⟩
  ·rw[ae e,ae (λz=>Ziw)];exact⟨h1,h2⟩
theorem KV.put{kvs:XI}{vs:Zap}(r:XM)(k:κ){y:V}{u:Value}(ry:XC):KV (Vn k y) (stored vs k u):=by
 unfold putK stored;rw[r.any k];by_cases e:(vs.any λkv=>decide (kv.1=k))=true
 ·rw[af e,af e];exact r.J0 k ry
 ·rw[ae e,ae e];exact ql r ⟨rfl,ry⟩
theorem KV.length{kvs:XI}{vs:Zap}(r:XM):kvs.length=vs.length:=yR r
end
theorem ub{P:Program}{w:World}{k:Key}{u:Value}(r:RelV (kV k) u):(fV P w).is k u=true:=by
 cases k with
 |inl i=>obtain⟨t,e⟩:=ZqN;subst e;exact KP P w i t
 |inr x=>obtain⟨t,e⟩:=ZqO;subst e;exact ak4 P w x t
theorem ab1{P:Program}{w:World}:∀{ks:Zb7} {us:Zp},Vals (ks.map kV) us->ItemsAre ZbF ks us
 |[],_,r=>by rw[vp]at r;cases r;exact .nil
 |k::ks,_,r=>by
  rw[cw]at r;cases r with
  |cons h t=>exact .cons (ub h) (ab1 t)
abbrev KT(H:Hp):Vb->Zcp->Prop:=Paired λp q=>p.1=q.1/\H q.2.1=some (.tup (p.1.map kV))/\RelV p.2 q.2.2
theorem KT.val{H:Hp}{kvs:Vb}{xs:Zcp}(r:Zdj)(k:Zb7):jJ (W4 k) ((atKey xs k).map ZZ):=by
 induction r with
 |nil=>exact True.intro
 | @cons p q ps qs h t ih=>
  obtain⟨h1,_,h2⟩:=h;ext V
  ·have e':q.1=k:=Zh4;have b:atKey (q::qs) k=some q.2:=by simp[atKey,oR,e']
   rw[zo e,b];exact h2
  ·have e':¬q.1=k:=λz=>Ziw;have b:atKey (q::qs) k=atKey qs k:=by simp[atKey,oR,e']
   rw[sF e,b];exact ih
theorem KT.J0{H:Hp}{kvs:Vb}{xs:Zcp}(r:Zdj)(k:Zb7){y:V}{u:Value}(ry:XC):
  KT H Zpa (xs.map (putAt k u)):=by
 induction r with
 |nil=>exact .nil
 | @cons p q ps qs h t ih=>
  rw[cw,cw];refine .cons ?_ ih;obtain⟨h1,h2,h3⟩:=h;unfold putAt;ext V
  ·rw[af e,af Zh4];exact⟨h1,h2,ry⟩
  ·rw[ae e,ae (λz=>Ziw)];exact⟨h1,h2,h3⟩
theorem KT.put{H:Hp}{kvs:Vb}{xs:Zcp}(r:Zdj)(k:Zb7){b:Addr}{y:V}{u:Value}(hb:H b=some ZeP)(ry:XC):
  KT H (Vn k y) (storedH xs k b u):=by
 have e:(kvs.any λkv=>decide (kv.1=k))=(atKey xs k).isSome :=by rw[HR,(r.val k).Le,Option.isSome_map]
 unfold putK storedH;rw[e];by_cases q:(atKey xs k).isSome =true
 ·rw[af q,af q];exact r.J0 k ry
 ·rw[ae q,ae q];exact ql r ⟨rfl,hb,ry⟩
theorem KT.keeps{H H':Hp}{kvs:Vb}{xs:Zcp}(r:Zdj)(ht:∀b ys,H b=some (.tup ys)->H' b=some (.tup ys)):KT H' kvs xs:=
 Paired.K1 r λ_ _ z=>Zsu
section
variable {P:Program}{w:World}{H:Hp}{h:Heap}{a:Addr}
theorem TQ{u:HO}(ok:Xq)(e:Za6 u):Vh u:=e.ok ok
theorem yF{kvs:Yb}(ok:Xq)(e:Za6 Yt):kvs.length<=sizeLine/\(a==sysModules)=false/\∃vs,XM/\Ziy vs:=
 show Vh Yt from TQ ok e
theorem adH{kvs:Yb}(ok:Xq)(e:H a=some Yt):kvs.length<=sizeLine/\(a==sysModules)=false/\∃vs,XM/\Ziy vs:=yF ok Zcb
theorem AH{ks:Zb7}(ok:Xq)(e:H a=some (.tup (ks.map kV))):(tupleKind ZbF).is h ks a:=by obtain⟨_,its,r,o,h1,h2,n,h3⟩:=(show Vh (.tup (ks.map kV))from ok a _ e);exact⟨o,its.toArray,n,h1,h2,h3,by simpa using ab1 r⟩
theorem yE{kvs:Vb}(ok:Xq)(e:Za6 ZaC):kvs.length<=sizeLine/\(a==sysModules)=false/\
  ∃xs,Zdj/\h.DictOfH Zm7 a xs:=by
 obtain⟨z,y,xs,r,o,es,ep,h1,h2,h3,h4,h5⟩:=(show Vh ZaC from TQ ok e);refine⟨z,y,xs,r,o,es,ep,h1,h2,h3,h4,λx hx=>?_,h5⟩;have all:∀{l:Vb} {m:Zcp},KT H l m->∀x∈m,(tupleKind ZbF).is h x.1 x.2.1:=by
  intro l m q
  induction q with
  |nil=>intro x hx;exact nomatch hx
  | @cons p q ps qs hq t ih=>
   intro x hx;rcases aJ.mp hx with e|hx
   ·subst e;exact AH ok (by rw[←hq.1];exact hq.2.1)
   ·exact ih x hx
 exact all r x hx
theorem aqg{kvs:Vb}(ok:Xq)(e:H a=some ZaC):kvs.length<=sizeLine/\(a==sysModules)=false/\
  ∃xs,Zdj/\h.DictOfH Zm7 a xs:=yE ok Zcb
end
def bZ(H:Hp)(a:Addr)(y:V)(r:ZM):Prop:=
 (∃kvs k,Za6 Yt/\y=kV k/\r=W4 k)∨∃kvs k b,Za6 ZaC/\y=.ref b/\H b=some ZeP/\r=W4 k
def qv(H:Hp)(a:Addr)(y v:V)(H':Hp):Prop:=
 (∃kvs k,H a=some Yt/\y=kV k/\kvs.length<sizeLine/\H'=Zw a (.dK (Vn k v)))∨
 ∃kvs k b,H a=some ZaC/\y=.ref b/\H b=some ZeP/\kvs.length<sizeLine/\H'=Zw a (.dT (Vn k v))
theorem bZ.k{H:Hp}{a:Addr}{kvs:Yb}{k:Key}(e:H a=some Yt):bZ H a (kV k) (W4 k):=.inl ⟨kvs,k,Zcb,rfl,rfl⟩
theorem qv.k{H:Hp}{a:Addr}{kvs:Yb}{k:Key}{v:V}(e:H a=some Yt)(hl:kvs.length<sizeLine):qv H a (kV k) v (Zw a (.dK (Vn k v))):=.inl ⟨kvs,k,e,rfl,hl,rfl⟩
section
variable {X:Cx}{pins:Zx}{σ:St}{H:Hp}{s:Shared}{a:Addr}{y v:V}{u r:Value}{o:ZM}{A:Around}{E:Zu}
theorem Inv.big(I:Zg):sysModules<s.heap.objs.size:=by have h:mainGlobals<s.heap.objs.size:=(I.mod.glob.keeps I.bk).lt;exact Nat.lt_trans Zj h
theorem aqp{Q:Zu}(hu:Zih)(I:Zg)(g:bZ H a y VS)(ry:XC)(h:∀w' s',ZU H s'->RelV v w'->Q w' s'):
  wpAny Yf A (getItem ZY u) Q E s:=by
 rcases g with⟨kvs,k,e,ey,l⟩|⟨kvs,k,b,e,ey,eb,l⟩
 ·ext aX;obtain⟨w',hw,kT⟩:=ZmM (o:=valueAt vs k) (by rw[l];exact rel.val k);exact wpAny_getItem_of (ub ry) dd.mapOf hw (h w' _ YJ kT)
 ·subst ey;ext an
  ext a4;obtain⟨w',hw,kT⟩:=ZmM (o:=(atKey xs k).map ZZ) (by rw[l];exact rel.val k);obtain⟨p,hp,dP⟩:=Option.map_eq_some_iff.mp hw;refine wpAny_getItem_heap (HW hu) ZiV dd hp ?_;rw[dP];exact h w' _ YJ kT
theorem aqo{Q:Zu}(hu:Zih)(I:Zg)(g:bZ H a y o)(ry:XC)(h:∀s',ZU H s'->Q (.bool o.isSome) s'):
  wpAny Yf A (compareOp .In u ZY) Q E s:=by
 rcases g with⟨kvs,k,e,ey,l⟩|⟨kvs,k,b,e,ey,eb,l⟩
 ·ext aX;refine wpAny_in_of (ub ry) hd dd.mapOf ?_;rw[←(rel.val k).Le,←l];exact h _ YJ
 ·subst ey;ext an
  ext a4;refine wpAny_in_heap (HW hu) ZiV hd dd ?_;have q:=(rel.val k).Le;rw[Option.isSome_map]at q;rw[←q,←l];exact h _ YJ
theorem NQ{h':Heap}{t':Nat}{ob:HO}(I:Zg)(mu:qr (H a))(hs:Zhs h')(he:∃q,h'.get? a=some q)(new:WL (Zw a ob) h' a ob):
  Inv X pins σ (Zw a ob) {s with heap:=h',toks:=t'}:=
 I.write (x:=a) (e:=a) mu Xf (λb q hb z=>(Zbb hb).trans z) he new
theorem adI{P:Program}{w:World}{H':Hp}{h':Heap}{kvs:Yb}{vs:ZeR}(z:kvs.length<=sizeLine)(hd:(a==sysModules)=false)(rel:XM)(dd:h'.DictOf ZbF a vs):
  dJ P w H' h' a Yt:=⟨z,hd,vs,rel,dd⟩
theorem aqn{H':Hp}{Q:Zah}(hu:Zih)(I:Zg)(g:qv H a y v H')(ry:XC)(rv:RelV v r)(h:∀s',VQ->Q () s'):
  wpAny Yf A (setItem ZY u r) Q E s:=by
 rcases g with⟨kvs,k,e,ey,l,eH⟩|⟨kvs,k,b,e,ey,eb,l,eH⟩
 ·subst ey eH;obtain⟨z,hd,vs,rel,dd⟩:=adH I.aC e;have hz:vs.length<=sizeLine:=by rw[←rel.length];exact z
  have hl:(Vn k v).length <=sizeLine:=by have:=K6 kvs k v;omega
  refine wpAny_setItem_pairs (hsz:=hz) (ub ry) dd λh' uW hs=>h _ ?_;have he:∃q,h'.get? a=some q:=let⟨q,_,_,hq,_⟩:=uW;⟨q,hq⟩;exact ZqG he (adI hl hd (rel.put k rv) uW)
 ·subst ey eH;ext an
  obtain⟨z,hd,xs,rel,dd⟩:=aqg I.aC e;have hz:xs.length<=sizeLine:=by rw[←yR rel];exact z
  have hl:(Vn k v).length <=sizeLine:=by have:=K6 kvs k v;omega
  refine wpAny_setItem_heap (hsz:=hz) (HW hu) ZiV dd λh' uW hs=>h _ ?_;obtain⟨q,es,ep,hq,h2,h3,h4,_,h5⟩:=uW;refine ZqG ⟨q,hq⟩ ⟨hl,hd,_,(rel.put k eb rv).keeps λc ys ec=>?_,q,es,ep,hq,h2,h3,h4,h5⟩;rw[ax (ie ec e (λz=>nomatch z))];exact ec
end
section
variable {X:Cx}{pins:Zx}{σ:St}{H:Hp}{s:Shared}{a:Addr}{kvs:Yb}{k:Key}{u:Value}{A:Around}{E:Zu}
end
def OS(i:Expr):Prop:=∀ov iv,subscripted i false ov iv=operate [ov,iv] (getItem ov iv)
theorem Qs{prog:Program}{w:World}{A:Around}{E:Zu}{s:Shared}{env:Env}{value slice:Expr}{pos:Pos}{T id:String}{Q:Zu}
  (hl:typeLookup (.type T) "__getitem__"=pure (some Zbz)) (hs:OS slice)
  (h:YF (eval value env) (λo s₁=>YF (eval slice env) (λi s₂=>s₂.TypeIs o T/\YF (getItem o i) Q E s₂) E s₁) E s):
  wpAny Y5 A (eval (.Subscript value slice pos) env) Q E s:=by
 refine Subscript_ (gL h (λo s₁ h₁=>gL h₁ (λi s₂ h₂=>?_) λ_ _ x=>x) λ_ _ x=>x);obtain⟨hT,h₂⟩:=h₂;unfold subscriptTail;ext q;rw[getitemInPython_of_ne hT.not_modules];refine aj (PU hT hl ?_);have fin:YF (subscripted slice false o i) (λr s₃=>YF (letTemporaryGo value o r>>= λ_=>pure r) Q E s₃) E s₂:=by rw[hs o i];exact wpAny_operating (gL h₂ (λr s₃ h₃=>aj (wpAny_letTemporaryGo (aL h₃))) λ_ _ x=>x)
 first
  |exact aL (aj fin)
  |exact aj (aL (aj fin))
  |exact aj fin
theorem aqk{X:Cx}{pins:Zx}{σ:St}{H:Hp}{s:Shared}{a:Addr}{y:V}{o:ZM}(I:Zg)(g:bZ H a y o):s.TypeIs ZY "dict":=by
 rcases g with⟨kvs,k,e,_,_⟩|⟨kvs,k,b,e,_,_,_⟩
 ·obtain⟨_,_,vs,_,dd⟩:=yF I.aC e;exact dd.typeIs
 ·obtain⟨_,_,xs,_,dd⟩:=yE I.aC e;exact dd.typeIs
def wk(td ty:TE):TE:=fun σ H Q=>td σ H λx H1=>ty σ H1 λy H2=>∃a v,x=.ref a/\bZ H2 a y VS/\Q v H2
def wg(ty td:TE):TE:=fun σ H Q=>ty σ H λy H1=>td σ H1 λx H2=>∃a o,x=.ref a/\bZ H2 a y o/\Q (.bl o.isSome) H2
def zD(ty td:TE):TE:=fun σ H Q=>ty σ H λy H1=>td σ H1 λx H2=>∃a o,x=.ref a/\bZ H2 a y o/\Q (.bl (!o.isSome)) H2
def wG(td ty tv:TE):TS:=λD σ H=>tv σ H λv H1=>td σ H1 λx H2=>ty σ H2 λy H3=>∃a H4,x=.ref a/\qv H3 a y v H4/\W0 H4
section
variable {X:Cx}{o i e value:Expr}{pos pos' fQ:Pos}{td ty tv:TE}
theorem jj(hu:ZhT)(ho:Zt o td)(hi:Zt i ty)(hs:OS i):Zt (Zar pos) (wk td ty):=by intro pins s σ H Q I h;refine Qs asj.lookup hs (aN Zcq λu s1 ⟨x,H1,I1,rx,q1⟩=>aN Zg7 λiv s2 ⟨y,H2,I2,ry,a,v,ex,g,q2⟩=>?_);subst ex;obtain rfl:u=Value.ref a:=rx;exact⟨aqk I2 g,aqp hu I2 g ry λw' s3 I3 kT=>⟨v,H2,I3,kT,q2⟩⟩
theorem aaw(hu:ZhT)(hi:Zt i ty)(ho:Zt o td):PC X .In i o (wg ty td):=by intro pins s σ H Q I h;refine aN Zld λiv s1 ⟨y,H1,I1,ry,q1⟩=>aN (Zia _ I1 q1) λu s2 ⟨x,H2,I2,rx,a,ov,ex,g,q2⟩=>?_;subst ex;obtain rfl:u=Value.ref a:=rx;exact aqo hu I2 g ry λs3 I3=>⟨.bl ov.isSome,H2,I3,rfl,q2⟩
theorem Ab(hu:ZhT)(ho:Zt o td)(hi:Zt i ty)(hv:ZiZ)(hs:swapsWith value (some (Zar pos')) pos.line X.env=pure false):
  PS X (.Assign [Zar pos'] value pos) (wG td ty tv):=by
 ext s;refine wpAny_Assign_Subscript (aN ZtK λr s1 ⟨v,H1,I1,rv,q1⟩=>aN (Zia _ I1 q1) λu s2 ⟨x,H2,I2,rx,q2⟩=>aN (hi pins s2 σ H2 _ I2 q2) λiv s3 ⟨y,H3,I3,ry,a,H4,ex,g,q3⟩=>?_) hs;subst ex;obtain rfl:u=Value.ref a:=rx;exact aqn hu I3 g ry rv λs4 I4=>⟨σ,H4,I4,q3⟩
end
theorem adJ{P:Program}{w:World}{H:Hp}(h:Heap)(hb:sysModules<h.objs.size):dJ P w H (h.push {cls:=Zax,data:=.dict #[]}) h.objs.size ZaR:=
 ⟨ZI,ip.mpr (qp (eB hb)),[],.nil,Heap.DictOf.new h⟩
def we:TE:=λ_ H Q=>∀p,H p=none->Q Z7 (Zw p ZaR)
section
variable {X:Cx}{pos:Pos}
theorem DZ:Zt (.Dict [] [] pos) we:=λpins s σ H Q I h=>
 wpAny_Dict_empty ⟨Ys,_,Zky (o:=.dK []) (t':=s.toks) Zmn ZC (adJ s.heap I.big),rfl,h _ X1⟩
end
def qG:Zfh->St->Hp->(List (V×V)->Hp->Prop)->Prop
 |[],_,H,Q=>Q [] H
 |(tk,tv)::r,σ,H,Q=>tk σ H λx H1=>tv σ H1 λy H2=>qG r σ H2 λps H3=>Q ((x,y)::ps) H3
abbrev VV:List (V×V)->List (Value×Value)->Prop:=Paired λp q=>RelV p.1 q.1/\RelV p.2 q.2
def G1(X:Cx)(pos:Pos)(keys:List Zfn)(values:Ya)(o7:Zfh):Prop:=
 ∀(pins:Zx) (s:Shared) (σ:St) (H:Hp) (Q:List (V×V)->Hp->Prop),Zg->qG o7 σ H Q->
  wpAny Yf X.A (evalPairs (pairTrees keys values X.env pos)) (λvs s'=>∃ps H',VQ/\VV ps vs/\Q ps H') X.xe s
theorem aaa{X:Cx}{pos:Pos}:G1 X pos [] [] []:=λpins s σ H Q I h=>pairTrees_nil_walk ⟨[],H,I,.nil,h⟩
theorem DU{X:Cx}{pos:Pos}{k v:Expr}{ks:List Zfn}{vs:Ya}{tk tv:TE}{o7:Zfh}(hk:Zt k tk)(hv:Zt v tv)(hr:G1 X pos ks vs o7):
  G1 X pos (some k::ks) (v::vs) ((tk,tv)::o7):=λpins s σ H Q I h=>
 pairTrees_cons_walk (aN (hk pins s σ H _ I h) λu s1 ⟨x,H1,I1,rx,q1⟩=>aN (hv pins s1 σ H1 _ I1 q1) λw2 s2 ⟨y,H2,I2,ry,q2⟩=>
  aN (hr pins s2 σ H2 _ I2 q2) λws s3 ⟨ps,H3,I3,rel,q3⟩=>⟨(x,y)::ps,H3,I3,.cons ⟨rx,ry⟩ rel,q3⟩)
def xo(kvs more:Yb):Yb:=more.foldl (λacc kv=>putK acc kv.1 kv.2) kvs
theorem KV.merge:∀{more:Yb} {rs:ZeR} {kvs:Yb} {vs:ZeR},KV more rs->XM->KV (xo kvs more) (merged vs rs):=by
 intro more rs kvs vs r;unfold KV at r
 induction r generalizing kvs vs with
 |nil=>intro q;exact q
 | @cons p q ps qs h t ih=>
  intro r0;have e:KV ZnK (stored vs q.1 q.2):=by have:=r0.put p.1 h.2;rw[←h.1];exact this
  exact ih e
theorem abw:∀(more kvs:Yb),(xo kvs more).length <=kvs.length+more.length
 |[],kvs=>by show kvs.length<=kvs.length+0;omega
 |p::r,kvs=>by have h1:=abw r ZnK;have h2:=K6 kvs p.1 p.2;show(xo ZnK r).length <=_;rw[bb];omega
theorem aeb{P:Program}{w:World}:∀{kvs:Yb} {ws:List (Value×Value)},VV (kvs.map λkv=>(kV kv.1,kv.2)) ws->∃rs,Carries ZbF ws rs/\KV kvs rs
 |[],_,r=>by rw[vp]at r;cases r;exact⟨[],True.intro,.nil⟩
 |p::kvs,_,r=>by
  rw[cw]at r;cases r with
  | @cons a b as bs h t=>
   obtain⟨rs,c,q⟩:=aeb (P:=P) (w:=w) t;obtain⟨b1,b2⟩:=b;exact⟨(p.1,b2)::rs,⟨ub h.1,rfl,c⟩,.cons ⟨rfl,h.2⟩ q⟩
def pb(o7:Zfh):TE:=fun σ H Q=>∀p,H p=none->qG o7 σ (Zw p ZaR) λps H2=>H2 p=some ZaR/\∃kvs:List (Key×V),ps=kvs.map (λkv=>(kV kv.1,kv.2))/\kvs.length<=15/\Q Z7 (YD p (.dK (xo [] kvs)))
theorem aau{X:Cx}{pos:Pos}{keys:List Zfn}{values:Ya}{o7:Zfh}(h:G1 X pos keys values o7)(dB:keys.all (·.isSome)=true)(hl:keys.length=values.length)(h0:keys≠[])
  (h15:keys.length<=15):Zt (.Dict keys values pos) (pb o7):=by
 intro pins s σ H Q I q;have hn:=I.aC.fresh (aU s.heap.objs.size);have I1:=Zky (o:=.dK []) (h':=s.heap.push {cls:=Zax,data:=.dict #[]}) (t':=s.toks) Zmn ZC (adJ s.heap I.big);refine wpAny_Dict_walk (knd:=Zbw) dB hl h0 h15 (aN (h pins _ σ _ _ I1 (q _ hn)) λws s2 ⟨ps,H2,I2,rel,e,kvs,ep,lk,q2⟩=>?_);subst ep;obtain⟨rs,c,rk⟩:=aeb (P:=X.prog) (w:=X.w) rel;obtain⟨z,hd,vs0,r0,dd⟩:=adH I2.aC e;cases r0
 refine⟨rs,c,dd,λh' uW hs=>⟨Ys,_,?_,rfl,q2⟩⟩;have hz:(xo [] kvs).length <=sizeLine:=by have h1:=abw kvs [];rw[jK]at h1;rw[zL];omega
 have he:∃q,h'.get? s.heap.objs.size=some q:=let⟨q,_,_,hq,_⟩:=uW;⟨q,hq⟩;exact NQ I2 (by rw[e];exact True.intro) hs he (adI hz hd (rk.merge .nil) uW)
structure M2(X:Cx)(o:Expr)(m:Str)(apos:Pos)(e f:Expr)(gq:Pos):Prop where
 base:Zev m X.env Uo=Za9 X.env
 uU:((Zb1 ZtO).all (λx=>!x.1)&&(backToKw gq Zhl).all Zmp
  &&decide (([e,f]:List Expr).length +([]:List Keyword).length +(if([]:List Keyword).isEmpty then 0 else 1)<30))=true
 line:(apos.endLine==gq.line)=true
 trees:Zb1 ZtO=[(false,Yz),(false,eval f X.env)]
def IsD(H:Hp)(a:Addr):Prop:=(∃kvs,Za6 Yt)∨∃kvs,Za6 ZaC
theorem al6{X:Cx}{pins:Zx}{σ:St}{H:Hp}{s:Shared}{a:Addr}(I:Zg)(d:IsD H a):
  s.TypeIs ZY "dict"/\(∀b,Value.ref a=.ref b->∃ob,s.heap.get? b=some ob/\ob.dict=none)/\(a==sysModules)=false:=by
 rcases d with⟨kvs,e⟩|⟨kvs,e⟩
 ·obtain⟨_,hd,vs,_,dd⟩:=yF I.aC e;refine Zs3;cases q
  ext cv
 ·obtain⟨_,hd,xs,_,dd⟩:=yE I.aC e;refine Zs3;cases q
  ext cv
section
variable {X:Cx}{pins:Zx}{σ:St}{H:Hp}{s:Shared}{a:Addr}{y d:V}{u r:Value}{o:ZM}{A:Around}{E:Zu}
theorem aqq{Q:Zu}(hu:Zih)(I:Zg)(g:bZ H a y o)(ry:XC)(rd:RelV d r)(h:∀w' s',ZU H s'->RelV (o.getD d) w'->Q w' s'):
  wpAny Yf A (call (.builtin "dict.get") [.ref a,u,r]) Q E s:=by
 rcases g with⟨kvs,k,e,ey,l⟩|⟨kvs,k,b,e,ey,eb,l⟩
 ·ext aX;refine ZoD (meets_dict_get_default Zbw a (ub ry) hd r) ⟨_,dd.mapOf,h _ _ YJ ?_⟩;rw[l];exact(rel.val k).getD rd
 ·subst ey;ext an
  ext a4;refine ZoD (meetsH_dict_get_default (tupleKind Zbw) a b hd r) ⟨HW hu,k,xs,ZiV,dd,h _ _ YJ ?_⟩;rw[l];exact(rel.val k).getD rd
end
def wj(td ty tx:TE):TE:=fun σ H Q=>td σ H λx H1=>∃a,x=.ref a/\IsD H1 a/\ty σ H1 λy H2=>tx σ H2 λz H3=>∃o,bZ H3 a y o/\Q (o.getD z) H3
section
variable {X:Cx}{o e f:Expr}{apos gq:Pos}{td ty tx:TE}
theorem aav(hu:ZhT)(ho:Zt o td)(he:Zt e ty)(hf:Zt f tx)(m:M2 X o "get" apos e f gq):Zt (.Call (Zbl "get" apos) [e,f] [] gq) (wj td ty tx):=by
 ext f;refine wpAny_Call_method m.base m.uU m.line PySem.F.plainAttrs_dict aeK PySem.F.type_dict_get (aN Zcq λu s1 ⟨x,H1,I1,rx,a,ex,d,q1⟩=>?_);subst ex;obtain rfl:u=Value.ref a:=rx;obtain⟨t1,t2,_⟩:=al6 I1 d;refine⟨t1,t2,?_⟩;rw[m.trees];refine Py rfl (afY (Hn (aN Zso λiv s2 ⟨y,H2,I2,ry,q2⟩=>
  Hn (aN (hf pins s2 σ H2 _ I2 q2) λfv s3 ⟨z,H3,I3,rz,ov,g,q3⟩=>Pr ?_))))
 exact aqq hu I3 g ry rz λw' s4 I4 kT=>⟨_,H3,I4,kT,q3⟩
end
section
variable {X:Cx}{pins:Zx}{σ:St}{H:Hp}{s:Shared}{a:Addr}{kvs:Yb}{A:Around}{E:Zu}
end
section
variable {X:Cx}{pins:Zx}{σ:St}{H:Hp}{s:Shared}{a:Addr}{y:V}{u:Value}{A:Around}{E:Zu}
end
end L2
namespace L2
open PySem PySem.Spec PyProof.Rows
section
variable {prog:Program}{w:World}{A:Around}{E:Zu}
end
section
variable {X:Cx}
end
end L2
namespace L2
open PySem PySem.Spec PyProof.Rows
section
variable {X:Cx}{pins:Zx}{σ:St}{H:Hp}{s:Shared}{h':Heap}
theorem Inv.Qa{t':Nat}{ch:Zz}(I:Zg)(k:ZoT)(hf:∀b∈ch,Vp H b):ZU H {s with heap:=h',toks:=t'}:=by
 have qZ:∀b u,H b=some u->b∉ch:=λb u e z=>by have q:=(hf b z).1;rw[q]at e;cases e
 refine Zn2
  (λ_ _ _ _ n=>n) Zq2 (λ_ _ e=>e) ZnB Zj7 (λm hm=>?_) ZiF I.bare
 ·ext bZ
 ·refine(I.aC b u e).lP ZkV ZfN λ_ _ q=>q;rcases hc with z|z
  ·rw[z];exact qZ b u e
  ·exact qZ c _ z
theorem Inv.CH{t':Nat}{ch:Zz}{T:Addr}{ob:HO}(I:Zg)(k:ZoT)(hf:∀b∈ch,Vp H b)(hT:s.heap.objs.size<=T)
  (new:WL (Zw T ob) h' T ob):ZU (Zw T ob) {s with heap:=h',toks:=t'}:=by
 have hn:H T=none:=I.aC.fresh hT;have qZ:∀b u,H b=some u->b∉ch:=λb u e z=>by have q:=(hf b z).1;rw[q]at e;cases e
 refine Zn2
  (λb o _ e n=>?_) Zq2 (λb xs e=>?_) (λb o u e=>?_) (λb ps e=>⟨#[],?_⟩) (λm hm=>?_) ZiF I.bare
 ·rw[ax (eB (hX YL hT))];exact n
 ·rw[ax ZbY];exact e
 ·rw[ax ZbY];exact e
 ·rw[ax ZbY,e];simp
 ·ext bZ
 ·by_cases hb:b=T
  ·subst hb;rw[au]at e;cases e
   exact new
  ·rw[ax hb]at e;refine(I.aC b u e).lP ZkV (λc q=>by rw[ax ZbZ];exact q) λc xs q=>by rw[ax ZbZ];exact q
   rcases hc with z|z
   ·rw[z];exact qZ b u e
   ·exact qZ c _ z
theorem Inv.lock{d:Addr}{u:HO}(I:Zg)(h:ZfU)(mu:qr ZdC):∃od,ZU Zfy s:=by
 have x:=I.aC d u h;have ex:∃od,s.heap.get? d=some od:=by
  cases u with
  |lst xs=>obtain⟨_,_,_,_,e⟩:=x;exact⟨_,e⟩
  |dK kvs=>obtain⟨_,_,_,_,o,_,_,e,_⟩:=x;exact⟨o,e⟩
  |dT kvs=>obtain⟨_,_,_,_,o,_,_,e,_⟩:=x;exact⟨o,e⟩
  |set S n=>obtain⟨o,_,_,_,e,_⟩:=x;exact⟨o,e⟩
  |ins C dx fs=>obtain⟨_,_,_,e,_⟩:=x;exact⟨_,e⟩
  |ext φ=>obtain⟨_,⟨_,e⟩,_⟩:=x;exact⟨_,e⟩
  |_=>exact False.elim mu
 obtain⟨od,e⟩:=ex;have new:WL Zfy s.heap d Us:=by
  refine⟨e,x.lP (λb v _ q=>q) (λb q=>?_) λb xs q=>?_⟩
  ·ext cy
  ·ext cy
 exact⟨od,I.write (x:=d) (e:=d) (t':=s.toks) (h':=s.heap) (by rw[h];exact mu) Xf (λb v _ q=>q) ⟨od,e⟩ new⟩
theorem Inv.An{d:Addr}{u:HO}(I:Zg)(h:ZfU)(mu:qr ZdC):∀o' u',X.vA d≠some (.bL o' u'):=λo' u' e=>by
 have q:=I.base.nr d o' u' e;rw[h]at q;cases q
 exact mu
theorem Inv.unlock{d:Addr}{od:Obj}{u:HO}(I:Zg)(h:H d=some Us)(hn:∀o' u',X.vA d≠some (.bL o' u')):ZU (Zw d u) s:=by
 have xl:∀b o,H b=some o->(∀o' u',o≠.bL o' u')->b≠d:=λb o e aK z=>by
  rw[z,h]at e;cases e
  exact aK _ _ rfl
 have neN:∀b,H b=none->b≠d:=λb e z=>by rw[z,h]at e;cases e
 refine⟨I.ok,I.os,I.bare,⟨I.base.keep,I.base.slot,λb o e n hx=>?_,I.base.there,λb xs e=>?_,λb o x e=>?_,λb ps e=>?_⟩,I.loc,I.cell,?_,λx c e=>?_,λp hp=>?_,λb o e=>?_,I.len⟩
 ·rw[ax (neN b Zeu)];exact Zeu
 ·have q:=I.base.o6 b xs e;rw[ax (xl b _ q ZjS)];exact q
 ·have q:=I.base.nr b o x e;rw[ax (λz=>by rw[z]at e;exact hn _ _ e)];exact q
 ·obtain⟨m,q⟩:=I.base.o8 b ps e;exact⟨m,by rw[ax (xl b _ q ZjS)];exact q⟩
 ·rw[ax (neN _ I.free)];exact I.free
 ·rw[ax (neN c Zfr)];exact Zfr
 ·obtain⟨e,n,r⟩:=I.pin p hp;exact⟨e,by rw[ax (neN _ n)];exact n,r⟩
 ·by_cases hb:b=d
  ·rw[hb,au]at e;cases e
   rw[hb];obtain⟨_,x⟩:=I.aC d _ h;exact x.lP (λc v _ q=>q) (λc q=>by rw[ax Zis];exact q) λc xs q=>by rw[ax Zis];exact q
  ·rw[ax hb]at e;exact(I.aC b o e).lP (λc v _ q=>q) (λc q=>by rw[ax Zis];exact q) λc xs q=>by rw[ax Zis];exact q
end
def ag5(t:TS):TS:=λD σ H=>∃d u,H d=some u/\qr ZdC/\∀od,t ⟨fun σ' H'=>H' d=some Us/\D.nx σ' Zdr,λv H'=>H' d=some Us/\D.rt v Zdr,fun σ' H'=>H' d=some Us/\D.bk σ' Zdr,fun σ' H'=>H' d=some Us/\D.ct σ' Zdr⟩ σ Zfy
def ag4(t:TE):TE:=fun σ H Q=>∃d u,H d=some u/\qr ZdC/\∀od,t σ Zfy λv H'=>H' d=some Us/\Q v Zdr
section
variable {X:Cx}
theorem T9{st:Stmt}{t:TS}(h:PS X st t):PS X st (ag5 t):=by
 intro pins s σ H D I hw;obtain⟨d,u,hd,mu,hw⟩:=hw;obtain⟨od,I1⟩:=I.lock hd mu;refine aN (UA _ _ I1 (hw od)) λf s1 q=>?_;cases f with
 |next=>obtain⟨σ',H',I2,e,q⟩:=q;exact Zj5
 |brk=>obtain⟨σ',H',I2,e,q⟩:=q;exact Zj5
 |cont=>obtain⟨σ',H',I2,e,q⟩:=q;exact Zj5
 |ret v=>obtain⟨x,σ',H',I2,r,e,q⟩:=q;exact⟨x,σ',_,Ztv,r,q⟩
theorem aas{e:Expr}{t:TE}(h:Zt e t):Zt e (ag4 t):=by intro pins s σ H Q I hw;obtain⟨d,u,hd,mu,hw⟩:=hw;obtain⟨od,I1⟩:=I.lock hd mu;refine aN (UA _ _ I1 (hw od)) λv s1 ⟨x,H1,I2,r,e2,q⟩=>?_;exact⟨x,_,I2.unlock e2 (I.An hd mu),r,q⟩
theorem DX{tg:Expr}{pins:Zx}{σ:St}{H:Hp}{s:Shared}{R:Ziu}{J:It}{tn:ZhS}{tk:Nat}(I:Zg)(o:Obj)
  (T:Turn X.prog X.w X.K tg J [s.heap.objs.size] s.heap.objs.size tn) (st:tn 0 (s.heap.push o)) (q:R J H):ZlR Ys {s with heap:=s.heap.push o,toks:=tk}:=by
 refine⟨s.heap.objs.size,[s.heap.objs.size],tn,J,H,rfl,I.kept λb ob e=>XU,T,st,λb hb=>?_,q⟩;have e:b=s.heap.objs.size:=by simpa using hb
 subst e;exact I.qe ZC X1
end
section
variable {X:Cx}{tg:Expr}
end
section
variable {X:Cx}{tg:Expr}
end
def Pk(x:Str):It:=⟨λi _=>i<x.cps.size,λi H v H'=>H'=H/\∃c,x.cps[i]? =some c/\v=.str ZbV,λi _=>x.cps.size<=i⟩
theorem Qb{P:Program}{w:World}{K:PySem.W.Frag}{tg:Expr}(it:Addr)(x:Str)(t:Tok)(ty:String)(rD:ty="str_ascii_iterator"∨ty="str_iterator"):
  Turn P w K tg (Pk x) [it] it Zq3 where
 mem:=by simp
 obj:=λi h st b hb=>by
  have e:b=it:=by simpa using hb
  ext aQ
 keep:=λi h h' st k=>let⟨o,ho,r⟩:=st;⟨o,UY o ho,r⟩
 item:=by
  ext J;ext a6;have W:Walks X.prog X.w X.A it [it] [it] x.cps.size (SignAt x) Zq3:=by
   rcases rD with e|e
   ·rw[e];exact Walks.strAscii YR it x t
   ·rw[e];exact Walks.strWide YR it x t
  have gD:["enumerate","zip","dict_itemiterator","dict_reverseitemiterator","odict_iterator","itertools.zip_longest","itertools.pairwise"].contains ty=false:=by
   rcases rD with e|e
   ·rw[e];decide
   ·rw[e];decide
  refine ZnH hg st λv h' tk hv gy kk=>?_;obtain⟨c,u,hcx,rfl⟩:=hv;have I1:ZU H {s with heap:=h',toks:=tk}:=Zow;obtain⟨oi,e,cc,dd⟩:=id gy;exact⟨_,rfl,Zq0 e cc dd gD ⟨.str ZbV,H,I1,⟨u,rfl⟩,⟨rfl,c,hcx,rfl⟩,gy,λb hb=>(hf b hb).1⟩⟩
 done:=by
  ext J;ext a6;have hx:x.cps[i]? =none:=PJ hg;rcases rD with e|e
  ·rw[e]at st;exact wpAny_pyNext_ascii_end YR st hx λh' eb=>Zd0
  ·rw[e]at st;exact wpAny_pyNext_wide_end YR st hx λh' eb=>Zd0
 self:=λA i s Q E st h=>by
  rcases rD with e|e
  ·rw[e]at st;exact wpAny_pyIter_striter_ascii st h
  ·rw[e]at st;exact wpAny_pyIter_striter_wide st h
def xA(te:TE):TI:=fun σ H R=>te σ H λv H1=>∃x,v=.str x/\R (Pk x) H1
theorem Kg{X:Cx}{tg e:Expr}{te:TE}(he:XR):Zcc e (xA te):=by
 ext w;refine aN Zae λv s1 ⟨y,H1,I1,r1,x,ex,q⟩=>?_;subst ex;obtain⟨t,rfl⟩:=r1;cases ha:x.cps.all (· <128)
 ·exact wpAny_pyIter_wide ha (Zhr (Qb _ x t "str_iterator" Zdm) Zcu q)
 ·exact wpAny_pyIter_ascii ha (Zhr (Qb _ x t "str_ascii_iterator" Xf) Zcu q)
section
variable {prog:Program}{w:World}{A:Around}{E:Zu}{s:Shared}
theorem abZ{d:Addr}{o:Obj}{es:Ul}{ep:Nat}{Q:Zu}(hd:(d==sysModules)=false)(ho:s.heap.get? d=some o)(hc:o.ExactDict)(acT:ZeN)
  (hQ:Q Ys {s with heap:=s.heap.push {cls:=.type "dict_keyiterator",data:=.fields #[.ref d,.int 0 0,.int es.size 0,.int ep 0]}}):
  wpAny Y5 A (pyIter Wc) Q E s:=by
 have hT:s.TypeIs Wc "dict":=⟨o,ho,hc.1⟩;refine HA hT F.slot_dict_iter (mI F.slot_dict_iter hT F.entry_dict_iter ?_ (F.args_dict_iter_1 _));unfold Builtin.«dict.__iter__»;ext q;unfold Builtin.Dict.dictSlotNone;refine aj (wpAny_notOrdered_dict hT ?_);show YI (pure (Value.ref d)) _ _ s;refine Yw;show YI (Builtin.Dict.showsAll d>>= _) _ _ s;unfold Builtin.Dict.showsAll;rw[ae (by rw[hd];exact eh)];refine aj Yw;refine aj (P1 ho acT ?_);refine aj (P0 ho acT ?_);refine aj (vJ (aL ⟨_,rfl,"dict_keyiterator",_,ZhB,Cs.lookup,?_⟩));simpa[rawInt]using hQ
theorem akK{it d:Addr}{i n ep:Nat}{od:Obj}{es:Ul}{en:DictEntry}{Q:ZcD}(hit:Zss)(m9:s.heap.get? d=some od)(bt:od.data=ZaW ep)
  (hsz:es.size=n) (hx:es[i]? =some en) (hQ:∀h',h'.IsKeyIter it d YU n ep->Zs9->Q (some en.key) {s with heap:=h'}):Zhe:=by
 ext c0;refine aj (zl (Zeb hit.typeIs Cs
  (mI Cs hit.typeIs atu ?_ (atv _))))
 refine aj Yw;ext q;ext q
 first |refine aj (Hw hit.typeIs (aL ?_))|refine aj (Hv hit.typeIs (aL ?_))
 refine ZmJ;have AX:Builtin.Dict_items.ownsTuple "dict_keyiterator"=false:=by decide
 ext bx;rw[ae Zf];refine Yw;obtain⟨A1,xX⟩:=atz.mp hx;simp only[show¬((i:Int)<0)from by omega,i5,mD,atA A1];ext q
 first |refine aj (Hw hit.typeIs (aL ?_))|refine aj (Hv hit.typeIs (aL ?_))
 refine aj (wpAny_isOneOf_keyiter hit.typeIs ?_);show YI (setField XJ 1 (rawInt ((i:Int)+1))>>= _) _ _ s;refine ZlI;have Ff:(s.heap.update it ZoL).IsKeyIter it d YU n ep:=
  ⟨_,zf _ ho (aeQ Zgd),(aeR ..).trans hc,by rw[vm hd];simp[rawInt]⟩
 refine aj (nH ?_);refine aj (wpAny_isOneOf_keyiter (s:={s with heap:=s.heap.update it (Obj.mapFields (·.setIfInBounds 1 (rawInt ((i:Int)+1))))}) Ff.typeIs ?_);show YI (pure es[i].key) _ _ _;rw[xX];exact aL (aL ⟨_,rfl,aL (hQ _ Ff (vz ..))⟩)
theorem aaT{it d:Addr}{i n ep:Nat}{od:Obj}{es:Ul}{Q:ZcD}(hh:Vc)(hit:Zss)(m9:s.heap.get? d=some od)(bt:od.data=ZaW ep)
  (hsz:es.size=n) (uC:n<=i) (hQ:ZoN):Zhe:=by
 ext c0;refine aj (zl (Zeb hit.typeIs Cs
  (mI Cs hit.typeIs atu ?_ (atv _))))
 refine aj Yw;ext q;ext q
 first |refine aj (Hw hit.typeIs (aL ?_))|refine aj (Hv hit.typeIs (aL ?_))
 refine ZmJ;have AX:Builtin.Dict_items.ownsTuple "dict_keyiterator"=false:=by decide
 ext bx;rw[ae Zf];refine Yw;have ank:es.size<=i:=by rw[hsz];exact uC
 simp only[show¬((i:Int)<0)from by omega,i5,mD,PJ ank];ext q
 first |refine aj (Hw hit.typeIs (aL ?_))|refine aj (Hv hit.typeIs (aL ?_))
 show YI (setField XJ 0 .none >>= _) _ _ s;refine ZlI;show YI (newExc (.type "StopIteration") []>>= _) _ _ _;ext q;ext bz;rw[show A.in1.handled=none from hh];refine ZtF;refine aj (HF (T:="StopIteration") (b:=true) ZhB ab3 ?_);exact aL (hQ _ (((vz ..).extBut.push _).push _))
end
theorem alG{κ:Type}{kvs:XI}{vs:Zap}(h:XM):∀{i:Nat} {k:κ} {v:V},kvs[i]? =some (k,v)->∃u,vs[i]? =some (k,u)/\RelV v u:=by
 unfold KV at h
 induction h with
 |nil=>intro i k v e;simp at e
 | @cons a b l₁ l₂ r t ih=>
  intro i k v e;cases i with
  |zero=>
   simp only[afA,aeN]at e;subst e;refine⟨b.2,?_,r.2⟩;simp only[afA];exact cb some (Prod.ext r.1.symm rfl)
  |succ j=>
   simp only[afB]at e⊢;exact ih e
theorem gN{α β:Type}{G:Ur}{l₁:ZN}{l₂:WA}(h:Paired G l₁ l₂):∀{i:Nat} {a:α},l₁[i]? =some a->∃b,l₂[i]? =some b/\G a b:=by
 induction h with
 |nil=>intro i a e;simp at e
 | @cons a b l₁ l₂ r t ih=>
  intro i a' e;cases i with
  |zero=>
   simp only[afA,aeN]at e;subst e;exact⟨b,rfl,r⟩
  |succ j=>
   simp only[afB]at e⊢;exact ih e
theorem ahS{k:Key}{u:Value}(h:pJ k u=true):RelV (kV k) u:=by
 rcases mW h with⟨i,t,rfl,rfl⟩|⟨x,t,rfl,rfl⟩
 ·exact Vl
 ·exact Vl
section
variable {X:Cx}{pins:Zx}{σ:St}{H:Hp}{s:Shared}{d:Addr}{o:Obj}
theorem Inv.Nm{kvs:Yb}(I:Zg)(h:H d=some Zdc):
  (d==sysModules)=false/\s.heap.get? d=some o/\o.ExactDict/\∃(es:Ul) (ep:Nat) (vs:ZeR),o.data=ZaW ep/\es.size=kvs.length/\XM/\s.heap.DictAt Zbw d vs ep:=by
 obtain⟨hd,z,hs,vs,kv,o',es,ep,ho,hx,gF,r⟩:=I.aC d _ h;rw[hd]at ho;cases ho
 refine⟨hs,hd,hx,es,ep,vs,gF,?_,kv,o,es,hd,hx,gF,r⟩;have l1:=r.2.1.length;have l2:kvs.length=vs.length:=yR kv;rw[oV]at l1;omega
theorem Inv.Nl{kvs:Vb}(I:Zg)(h:H d=some Zi5):
  (d==sysModules)=false/\s.heap.get? d=some o/\o.ExactDict/\∃(es:Ul) (ep:Nat),o.data=ZaW ep/\es.size=kvs.length/\
   ∀(i:Nat) (k:Zb7) (v:V),kvs[i]? =some (k,v)->∃(en:DictEntry) (q:Addr),es[i]? =some en/\en.key=.ref q/\H q=some ZeP:=by
 obtain⟨hd,z,hs,xs,pr,o',es,ep,ho,hx,gF,he,_⟩:=I.aC d _ h;rw[hd]at ho;cases ho
 refine⟨hs,hd,hx,es,ep,gF,?_,λi k v e=>?_⟩
 ·have l1:es.size=xs.length:=size_of_entries he;have l2:kvs.length=xs.length:=yR pr;omega
 ·obtain⟨b,hb,e1,e2,_⟩:=gN pr e;have q:=entry_at he i;rw[hb]at q;exact⟨_,b.2.1,q,rfl,e2⟩
end
def Hj(d:Addr)(o:Obj)(kvs:Yb):It:=
 ⟨λi H=>H d=some Zdc/\i<kvs.length,λi H x H'=>H'=H/\∃k v,kvs[i]? =some (k,v)/\x=kV k,λi H=>H d=some Zdc/\kvs.length<=i⟩
def afR(d:Addr)(o:Obj)(kvs:Vb):It:=
 ⟨λi H=>H d=some Zi5/\i<kvs.length,λi H x H'=>H'=H/\∃(k:Zb7) (v:V) (q:Addr),kvs[i]? =some (k,v)/\x=.ref q/\H q=some ZeP,λi H=>H d=some Zi5/\kvs.length<=i⟩
theorem FT{o:Obj}{es lF:Ul}{ep mm:Nat}(h:ZeN)(h':o.data=.dict lF mm):lF=es/\mm=ep:=by
 rw[h]at h';cases h'
 exact Uv
section
variable {P:Program}{w:World}{K:PySem.W.Frag}{tg:Expr}{d:Addr}{o:Obj}{es:Ul}{ep:Nat}
theorem agG{kvs:Yb}(it:Addr)(m9:ZeN):Zfj ZiM [it] it Zpt where
 mem:=by simp
 obj:=λi h st b hb=>by
  have e:b=it:=by simpa using hb
  ext b5
 keep:=λi h h' st k=>st.at λoi e=>UY oi e
 item:=by intro X hP hw hK hc i pins s σ H E I hf st hg;subst hP hw hK;obtain⟨hd,hi⟩:=hg;obtain⟨f0,f1,f2,f3,f4,f5⟩:=WR;obtain⟨hs,oz,hx,lF,mm,vs,gF,hsz,kv,hm⟩:=I.Nm hd;obtain⟨rfl,rfl⟩:=FT m9 gF;obtain⟨⟨k,v⟩,eU⟩:∃p,kvs[i]? =some p:=⟨kvs[i],fP hi⟩;obtain⟨u,hu,ru⟩:=alG kv eU;have hl:kvs.length=vs.length:=yR kv;rw[hl]at st;refine wpAny_pyNext_dict_item st hm hu λkey h' A7 gy sb=>?_;have I1:ZU H {s with heap:=h'}:=ZoY;obtain⟨oi,e,c,dd⟩:=id gy;refine⟨key,rfl,ZgZ dd Zj ⟨kV k,H,I1,ahS (show pJ k key=true from A7),⟨rfl,k,v,eU,rfl⟩,?_,λb hb=>(hf b hb).1⟩⟩;show h'.IsKeyIter it d YU kvs.length _;rw[hl];exact gy
 done:=by intro X hP hw hK hc i pins s σ H E I hf st hg;subst hP hw hK;obtain⟨hd,hi⟩:=hg;obtain⟨f0,f1,f2,f3,f4,f5⟩:=WR;obtain⟨hs,oz,hx,lF,mm,vs,gF,hsz,kv,hm⟩:=I.Nm hd;obtain⟨rfl,rfl⟩:=FT m9 gF;exact aaT YR st oz gF hsz hi λh' eb=>ZoR
 self:=λA i s Q E st h=>wpAny_pyIter_keyiter st h
theorem agF{kvs:Vb}(it:Addr)(m9:ZeN):Zfj (afR d o kvs) [it] it Zpt where
 mem:=by simp
 obj:=λi h st b hb=>by
  have e:b=it:=by simpa using hb
  ext b5
 keep:=λi h h' st k=>st.at λoi e=>UY oi e
 item:=by intro X hP hw hK hc i pins s σ H E I hf st hg;subst hP hw hK;obtain⟨hd,hi⟩:=hg;obtain⟨f0,f1,f2,f3,f4,f5⟩:=WR;obtain⟨hs,oz,hx,lF,mm,gF,hsz,ent⟩:=I.Nl hd;obtain⟨rfl,rfl⟩:=FT m9 gF;obtain⟨⟨k,v⟩,eU⟩:∃p,kvs[i]? =some p:=⟨kvs[i],fP hi⟩;obtain⟨en,q,xX,A7,hq⟩:=ent i k v eU;refine akK st oz gF hsz xX λh' gy sb=>?_;have I1:ZU H {s with heap:=h'}:=ZoY;obtain⟨oi,e,c,dd⟩:=id gy;exact⟨en.key,rfl,ZgZ dd Zj ⟨XO,H,I1,A7,⟨rfl,k,v,q,eU,rfl,hq⟩,gy,λb hb=>(hf b hb).1⟩⟩
 done:=by intro X hP hw hK hc i pins s σ H E I hf st hg;subst hP hw hK;obtain⟨hd,hi⟩:=hg;obtain⟨f0,f1,f2,f3,f4,f5⟩:=WR;obtain⟨hs,oz,hx,lF,mm,gF,hsz,ent⟩:=I.Nl hd;obtain⟨rfl,rfl⟩:=FT m9 gF;exact aaT YR st oz gF hsz hi λh' eb=>ZoR
 self:=λA i s Q E st h=>by refine HA st.typeIs att (mI att st.typeIs F.entry_dict_keyiterator_iter ?_ (F.args_dict_keyiterator_iter_1 _));show YI (ret XJ) _ _ s;exact aL ⟨_,rfl,"dict_keyiterator",_,st.typeIs,Cs.lookup,h⟩
end
def acf(td:TE):TI:=fun σ H R=>td σ H λx H1=>∃d o,x=.ref d/\((∃kvs,H1 d=some Zdc/\R ZiM H1)∨∃kvs,H1 d=some Zi5/\R (afR d o kvs) H1)
section
variable {X:Cx}{tg e:Expr}{td:TE}{apos gq:Pos}
theorem Kh(he:Zt e td):Zcc e (acf td):=by
 ext w;refine aN Zae λu s1 ⟨x,H1,I1,rx,d,o,ex,q⟩=>?_;subst ex;obtain rfl:u=Value.ref d:=rx;rcases q with⟨kvs,hd,q⟩|⟨kvs,hd,q⟩
 ·obtain⟨hs,oz,hx,es,ep,vs,gF,hsz,kv,hm⟩:=I1.Nm hd;refine abZ hs oz hx gF (Zhr (agG _ gF) Zli q);rw[hsz]<;>rfl
 ·obtain⟨hs,oz,hx,es,ep,gF,hsz,ent⟩:=I1.Nl hd;refine abZ hs oz hx gF (Zhr (agF _ gF) Zli q);rw[hsz]<;>rfl
end
def Hk(K:PySem.W.Frag)(a:Addr):It:=
 ⟨λi H=>∃(xs:Ze) (x:V),YO/\xs[i]? =some x,λi H v H'=>∃T x,v=.ref T/\H T=none/\H'=Zw T Zhg/\∀xs,YO->xs[i]? =some x,λi H=>∃xs:List V,YO/\xs.length<=i⟩
theorem agI{P:Program}{w:World}{K:PySem.W.Frag}{elts:Ya}{kk:Nat}{fQ:Pos}(a e it:Addr):
  Turn P w K VC (Hk K a) [e,it] e (λi h=>(∃old,IsEnum h e it ((i:Nat):Int) old)/\Ze3 a i/\e≠it) where
 mem:=by simp
 obj:=λi h st b hb=>by
  ext cP;have e':b=e∨b=it:=by simpa using hb
  rcases e' with z|z
  ·rw[z];exact⟨_,he,λv q=>nomatch q⟩
  ·rw[z];exact⟨o,ho,λv q=>by rw[hd]at q;cases q⟩
 keep:=λi h h' st k=>let⟨⟨old,he⟩,hi,aK⟩:=st;⟨⟨old,k e Zf _ he⟩,hi.at λo q=>UY o q,aK⟩
 item:=by
  ext J;ext bF;have LY:it<s.heap.objs.size:=by obtain⟨_,q,_⟩:=hit;exact bT q
  refine wpAny_pyNext_enum_item he hit p.isList (x:=u) ZhE aK λh' ho Ff hT hsz hk=>?_;refine⟨_,rfl,agd (s:={s with heap:=h',toks:=s.toks+1}) ho λjF L8 sb=>?_⟩;have uJ:jF.get? s.heap.objs.size=some {cls:=Xz,data:=.seq #[Xs s.toks,u]}:=(sb.2 _ (oO kI)).trans hT;have new:WL (Wl Zhg) jF s.heap.objs.size Zhg:=
   ⟨ZkD,[Xs s.toks,u],.cons Zs ZmR,ZhC⟩
  have I1:ZU (Wl Zhg) {s with heap:=jF,toks:=s.toks+1}:=
   I.CH (ch:=[e,it]) Zn8 hf ZC new
  refine⟨Ys,_,I1,rfl,ZoO,⟨⟨u,?_⟩,Ff.at λo q=>(sb.2 it (qp aK)).trans q,aK⟩,λb hb=>?_⟩
  ·have e1:((i+1 :Nat):Int)=(i:Int)+1:=by omega
   rw[e1];exact L8
  ·have fi:b<s.heap.objs.size:=by
    have e':b=e∨b=it:=by simpa using hb
    rcases e' with z|z
    ·rw[z];exact kI
    ·rw[z];exact LY
   rw[ax (eB fi)];exact(hf b hb).1
 done:=by intro X hP hw hK hc i pins s σ H E I hf st hg;subst hP hw hK;obtain⟨⟨old,he⟩,hit,aK⟩:=st;obtain⟨xs,hq,hx⟩:=hg;obtain⟨its,rv,p,hz⟩:=UL;obtain⟨f0,f1,f2,f3,f4,f5⟩:=WR;have hl:=rv.length;exact wpAny_pyNext_enum_end YR he hit p.isList (by simp;omega) λh' eb=>ZoW
 self:=λA i s Q E st h=>let⟨⟨_,he⟩,_⟩:=st;HB he h
def uj(K:PySem.W.Frag)(ta:TA):TI:=fun σ H R=>Xc H λvs H1=>∃a xs,vs=[.ref a]/\Ux/\R (Hk K a) H1
theorem ain{X:Cx}{e:Expr}{ta:TA}{p pos fQ:Pos}{elts:Ya}{kk:Nat}(hg:ZmW)(hm:Zlw)(ha:PA X [e] ta)(hs:starEach [e] X.env=[(false,Yz)]:=by rfl):
  PI X VC Zpv (uj X.K ta):=by
 ext w;refine Call_ (Zdg boot_enumerate (ZjG hs rfl));obtain⟨a,xs,ex,hq,q⟩:=q1;subst ex;cases r1 with
 |cons r rr=>
  cases rr
  cases r
  obtain⟨its,rv,p',hz⟩:=I1.list hq;refine call_enumerate_list p'.isList λh' he hit hsz hk=>HB he ?_;have I2:ZU H1 {s1 with heap:=h'}:=ZkX;refine⟨s1.heap.objs.size+1,[s1.heap.objs.size+1,s1.heap.objs.size],_,_,H1,rfl,I2,agI a (s1.heap.objs.size+1) s1.heap.objs.size,Zpu,λb hb=>?_,q⟩;have e':b=s1.heap.objs.size+1∨b=s1.heap.objs.size:=by simpa using hb
  have hle:s1.heap.objs.size<=b:=by
   rcases e' with z|z
   ·ext U
   ·rw[z];exact ZC
  exact ZkA
theorem aed:bootBuiltins "zip"=some (.type "zip"):=by decide+kernel
def Ph(K:PySem.W.Frag)(a b:Addr):It:=
 ⟨λi H=>∃(xs ys:Ze) (x y:V),YO/\ZdJ/\xs[i]? =some x/\ys[i]? =some y,
  λi H v H'=>∃T x y,v=.ref T/\H T=none/\H'=Zw T Zfm/\(∀xs,YO->xs[i]? =some x)/\∀ys,ZdJ->ys[i]? =some y,
  λi H=>∃xs ys:List V,ag K H a xs/\ag K H b ys/\(xs.length<=i∨ys.length<=i)⟩
theorem agB{P:Program}{w:World}{K:PySem.W.Frag}{elts:Ya}{kk:Nat}{fQ:Pos}{a b z TI TO i1 i2:Addr}(D:ZipApart z TI TO i1 i2 a b):
  Turn P w K VC (Ph K a b) [z,TI,TO,i1,i2] z (λi h=>IsZip h z TI TO .none /\IsPair h TI (.ref i1) (.ref i2)/\(∃x y,IsPair h TO x y)/\h.IsListIter i1 a i/\h.IsListIter i2 b i) where
 mem:=by simp
 obj:=λi h st c hc=>by
  obtain⟨hz,dY,⟨x,y,fJ⟩,⟨o1,e1,_,d1⟩,⟨o2,e2,_,d2⟩⟩:=st;have e':c=z∨c=TI∨c=TO∨c=i1∨c=i2:=by simpa using hc
  rcases e' with q|q|q|q|q
  ·rw[q];exact Ztq
  ·rw[q];exact Zto
  ·rw[q];exact Ztp
  ·rw[q];exact Zqh
  ·rw[q];exact Zqi
 keep:=λi h h' st k=>by obtain⟨hz,dY,⟨x,y,fJ⟩,h1,h2⟩:=st;exact⟨k z Zf _ hz,k TI Zf _ dY,⟨x,y,k TO Zf _ fJ⟩,h1.at λo q=>k i1 Zf o q,h2.at λo q=>k i2 Zf o q⟩
 item:=by
  ext J;obtain⟨hz,dY,⟨x0,y0,fJ⟩,h1,h2⟩:=st;obtain⟨xs,ys,x,y,iH,m6,hx,hy⟩:=hg;ext aR;obtain⟨u,hu,ru⟩:=Zgn;obtain⟨u2,pN,JT⟩:=tp.get hy;have cE:z<s.heap.objs.size:=bT hz;refine wpAny_pyNext_zip_item D hz dY fJ h1 h2 p.isList p2.isList (x:=u) (y:=u2) ZhE (by simpa using pN) λh' z' Ow Bk h2' hT hsz hk=>?_;refine ZoV;have uJ:jF.get? s.heap.objs.size=some {cls:=Xz,data:=.seq #[u,u2]}:=(sb.2 _ (oO cE)).trans hT;have new:WL (Wl Zfm) jF s.heap.objs.size Zfm:=
   ⟨ZkD,[u,u2],.cons ru (.cons JT .nil),ZhC⟩
  have I1:ZU (Wl Zfm) {s with heap:=jF}:=
   I.CH (t':=s.toks) (ch:=[z,TI,TO,i1,i2]) (λc o hb q=>(sb.2 c Zet).trans (hk c o Zet Zet Zet Zet q)) hf ZC new
  refine⟨Ys,_,I1,rfl,⟨_,x,y,rfl,X1,rfl,λl hl=>ZsU,λl hl=>ZsV⟩,⟨Ht,?_,⟨u,u2,?_⟩,?_,?_⟩,λc ni=>?_⟩
  ·exact(sb.2 _ D.TIz).trans (hk _ _ D.TIz D.TITO D.TIi1 D.TIi2 dY)
  ·exact(sb.2 _ D.TOz).trans Ow
  ·exact Bk.at λo q=>(sb.2 _ D.i1z).trans q
  ·exact h2'.at λo q=>(sb.2 _ D.i2z).trans q
  ·have bG:c<s.heap.objs.size:=by
    have e':c=z∨c=TI∨c=TO∨c=i1∨c=i2:=by simpa using ni
    rcases e' with q|q|q|q|q
    ·rw[q];exact cE
    ·rw[q];exact bT dY
    ·rw[q];exact bT fJ
    ·rw[q];obtain⟨_,e1,_⟩:=h1;exact bT e1
    ·rw[q];obtain⟨_,e2,_⟩:=h2;exact bT e2
   rw[ax (eB bG)];exact(hf c ni).1
 done:=by
  ext J;obtain⟨hz,dY,⟨x0,y0,fJ⟩,h1,h2⟩:=st;obtain⟨xs,ys,iH,m6,acP⟩:=hg;ext aR;have l1:=rv.length;have l2:=tp.length;have he:its.toArray[i]? =none∨ll.toArray[i]? =none:=by
   rcases acP with q|q
   ·exact .inl (by simp;omega)
   ·exact .inr (by simp;omega)
  exact wpAny_pyNext_zip_end YR D hz dY fJ h1 h2 p.isList p2.isList he λh' hk=>⟨rfl,I.Qa (t':=s.toks) (ch:=[z,TI,TO,i1,i2]) (λc o hb q=>
   hk c o (λq'=>hb (by simp[q'])) (λq'=>hb (by simp[q'])) (λq'=>hb (by simp[q'])) (λq'=>hb (by simp[q'])) q) hf⟩
 self:=λA i s Q E st h=>Hz st.1 h
def ug(K:PySem.W.Frag)(ta:TA):TI:=fun σ H R=>Xc H λvs H1=>∃a b xs ys,vs=[.ref a,.ref b]/\Ux/\ag K H1 b ys/\R (Ph K a b) H1
theorem aii{X:Cx}{e e2:Expr}{ta:TA}{p pos fQ:Pos}{elts:Ya}{kk:Nat}(hg:Gl X "zip")(hm:Znm)(ha:PA X [e,e2] ta)
  (hs:starEach [e,e2] X.env=(false,Yz)::starEach [e2] X.env:=by rfl) (cC:(Xb (starEach [e2] X.env)).any Zh=false:=by rfl):
  PI X VC ZpW (ug X.K ta):=by
 ext w;refine Zsv;obtain⟨a,b,xs,ys,ex,iH,m6,q⟩:=q1;subst ex;cases r1 with
 |cons r rr=>
  cases rr with
  |cons r' rr=>
   cases rr
   cases r
   cases r'
   ext cb;have la:a<s1.heap.objs.size:=p1.lt;have lb:b<s1.heap.objs.size:=p2.lt;refine call_zip_2 p1.isList p2.isList λh' hz dY fJ h1 h2 hsz hk=>Hz hz ?_;have I2:ZU H1 {s1 with heap:=h'}:=ZkX;refine⟨s1.heap.objs.size+4,[s1.heap.objs.size+4,s1.heap.objs.size+2,s1.heap.objs.size+3,s1.heap.objs.size,s1.heap.objs.size+1],_,_,H1,rfl,I2,agB (PySem.W.ktu_apart s1.heap.objs.size a b la lb),⟨hz,dY,⟨_,_,fJ⟩,h1,h2⟩,λc ni=>?_,q⟩;have e':c=s1.heap.objs.size+4∨c=s1.heap.objs.size+2∨c=s1.heap.objs.size+3∨c=s1.heap.objs.size∨c=s1.heap.objs.size+1:=by simpa using ni
   have hle:s1.heap.objs.size<=c:=by
    rcases e' with z|z|z|z|z
    ·ext U
    ·ext U
    ·ext U
    ·rw[z];exact ZC
    ·ext U
   exact ZkA
end L2
section
namespace Bits
open PySem PyProof.Rows
end Bits
end
section
namespace TL
open PySem PySem.Builtin PySem.Builtin.Str PySem.StrLaws
abbrev tl(x:Str):Za:=x.cps.toList
theorem mV(x:Str):x.length=(tl x).length :=by simp[tl,Str.length]
theorem adx{x y:Str}(h:tl x=tl y):x=y:=Str.ext' (af2.mp h)
theorem CL(x y:Str):tl (x++y)=tl x++tl y:=by show(x++y).cps.toList =_;rw[Str.cps_append,af3]
theorem ak3(x:Str):(⟨(tl x).toArray⟩:Str)=x:=adx rfl
theorem agS(s:String):tl ZeU=s.toList.map Char.toNat:=PyProof.Rows.signs_ofString s
def pre(S l:Za):Bool:=l.take S.length==S
def fg(S:Za):Nat->Za->Za->List Za
 |_,acc,[]=>[acc]
 |0,acc,c::r=>if pre S VX=true then acc::fg S ZiN [] r else ZhW r
 |k+1,acc,_::r=>fg S k acc r
theorem Ip(S:Za)(k:Nat)(acc:Za):fg S k acc []=[acc]:=by cases k<;>rfl
theorem QE{S acc r:Za}{c:Nat}(h:pre S VX=true):Zf0 VX=acc::fg S ZiN [] r:=by show(if pre S VX=true then acc::fg S ZiN [] r else ZhW r)=_;rw[af h]
theorem QD{S acc r:Za}{c:Nat}(h:pre S VX=false):Zf0 VX=ZhW r:=by show(if pre S VX=true then acc::fg S ZiN [] r else ZhW r)=_;rw[ae (by rw[h];exact eh)]
theorem QC(S:Za):∀(k:Nat) (acc l:Za),fg S k acc l=Zf0 (l.drop k)
 |0,_,_=>by rw[afI]
 |k+1,acc,[]=>by rw[List.drop_nil,Ip,Ip]
 |k+1,acc,c::r=>by show fg S k acc r=Zf0 (r.drop k);exact QC S k acc r
theorem aid{S:Za}(hS:S≠[]):pre S []=false:=by
 cases S with
 |nil=>exact absurd rfl hS
 |cons s S=>rfl
theorem anY{L:Za}{a:Nat}(h:a<L.length):∃c,L.drop a=c::L.drop (a+1):=⟨L[a],afK h⟩
theorem Io(S L:Za):∀(m a:Nat) (acc:Za),a+m<=L.length->(∀k,a<=k->k<a+m->pre S (L.drop k)=false)->
  fg S 0 acc (L.drop a)=fg S 0 (acc++(L.drop a).take m) (L.drop (a+m))
 |0,a,acc,_,_=>by rw[afo,fc,G4]
 |m+1,a,acc,h,hn=>by
  have bG:a<L.length:=by omega
  obtain⟨c,e⟩:=anY bG;have h0:=hn a ZC Zb;have ih:=Io S L m (a+1) (acc++[c]) Zb (λk h1 h2=>hn k Zb Zb);have e2:a+1+m=a+(m+1):=by omega
  rw[e2]at ih;rw[e]at h0;rw[e,QD h0,ih,afp,eC]<;>rfl
theorem aqh(L:Za)(a b:Nat):(L.drop a).drop b=L.drop (a+b):=by
 first
  |rw[zd]
  |rw[zd,G5]
theorem ahn{S L:Za}(hS:S≠[]){c:Nat}{acc:Za}(h:pre S (L.drop c)=true):Zf0 (L.drop c)=acc::fg S 0 [] (L.drop (c+S.length)):=by
 rw[←aqh];cases e:L.drop c with
 |nil=>rw[e,aid hS]at h;cases h
 |cons d r=>
  rw[e]at h;rw[QE h,QC];cases S with
  |nil=>exact absurd rfl hS
  |cons s S=>rfl
theorem aeu{x y:Str}(hy:Zgq)(i:Nat):Znd i↔pre V0 Zm9=true:=by
 have hx:=mV x;have hl:=mV y;ext b
 ·intro h;have h2:=h.2;rw[subAt_eq,hl]at h2;exact h2
 ·intro h;have e:((tl x).drop i).take (tl y).length =tl y:=eq_of_beq h;have e1:=Zaw e;rw[eY,mz]at e1;have e2:0<(tl y).length :=sv.mpr hy;refine⟨Zb,?_⟩;rw[subAt_eq,hl];exact h
theorem aaS{x y:Str}(hy:Zgq){i:Nat}(h:¬Znd i):pre V0 Zm9=false:=by
 cases hp:pre V0 Zm9 with
 |false=>rfl
 |true=>exact absurd ((aeu hy i).mpr hp) h
theorem alx{y:Str}(hy:Zgq):1<=y.length:=by have e2:0<(tl y).length :=sv.mpr hy;rw[mV y];exact e2
theorem Qg(x:Str)(i j:Nat):tl (strSub x i j)=((tl x).drop i).take (j-i):=strSub_toList x i j
theorem agR(x:Str)(i:Nat):tl (strSub x i x.length)=(tl x).drop i:=by rw[Qg,mV x];exact vn (by rw[mz]<;>omega)
theorem aax{x y:Str}(hy:Zgq):∀(adT:Za) (a f:Nat),a<=(tl x).length ->ChainG x y x.length a adT f->(∀k,f<=k->¬Znd k)->
  (partsFrom x y.length a adT).map tl=fg V0 0 [] ((tl x).drop a)
 |[],a,f,ha,h,hn=>by
  have e:f=a:=h;subst e;show[tl (strSub x f x.length)]=_;have run:=Io V0 (tl x) ((tl x).length -f) f [] Zb (λk h1 _=>aaS hy (hn k h1));have e2:f+((tl x).length -f)=(tl x).length :=by omega
  rw[e2,Hg,Ip,mx,vn (by rw[mz]<;>omega)]at run;rw[run,agR]
 |c::r,a,f,ha,h,hn=>by
  obtain⟨h1,h2,h3,h4⟩:=h;have hc:c+y.length<=x.length:=h2.1;have hx:=mV x;have hl:=mV y;have ih:=aax hy r (c+y.length) f Zb h4 hn;show tl (strSub x a c)::(partsFrom x y.length (c+y.length) r).map tl=_;have run:=Io V0 (tl x) (c-a) a [] Zb (λk k1 k2=>aaS hy (h3 k k1 Zb));have e2:a+(c-a)=c:=by omega
  rw[e2,mx,ahn hy ((aeu hy c).mp h2)]at run;rw[run,ih,Qg,hl]
theorem ahl(x y:Str)(hy:Zgq)(hk:¬Builtin.Str.strKind x<Builtin.Str.strKind y):(Txt.split x y).map tl=fg V0 0 [] (tl x):=by
 obtain⟨f,g,hn⟩:=occ_tight x y (alx hy);have key:=aax hy _ 0 f ZI g hn;rw[afI]at key;have aaR:ZkI (x.length+1)=[]->[x].map tl=fg V0 0 [] (tl x):=λho=>by rw[ho]at key;rw[←key];show[tl x]=[tl (strSub x 0 x.length)];rw[sub_whole]
 unfold Txt.split;by_cases h1:(decide (x.length<y.length)||decide (Builtin.Str.strKind x<Builtin.Str.strKind y))=true
 ·rw[af h1];have bG:x.length<y.length:=by
   simp only[h_,bX]at h1;rcases h1 with h|h
   ·exact h
   ·exact ZdL hk
  refine aaR ?_;cases ho:ZkI (x.length+1)with
  |nil=>rfl
  |cons c r=>
   rw[ho]at g;have hc:c+y.length<=x.length:=g.2.1.1;omega
 ·rw[ae h1];by_cases h2:(ZkI (x.length+1)).isEmpty =true
  ·rw[af h2];exact aaR (Ha.mp h2)
  ·rw[ae h2,partsBetween_eq];exact key
theorem alH{x y:Str}(h:y.cps.all (· <256)=true):¬Builtin.Str.strKind x<Builtin.Str.strKind y:=by
 have e:Builtin.Str.strKind y=1:=by unfold PySem.Builtin.Str.strKind;rw[af h]
 rw[e];unfold PySem.Builtin.Str.strKind;split
 ·omega
 ·split<;>omega
def mX(S:Za):Yv->List Nat
 |[]=>[]
 |[p]=>p
 |p::q::r=>p++(S++mX S (q::r))
theorem HX(y:Str):∀parts:List Str,tl (Str.join y parts)=mX V0 (parts.map tl)
 |[]=>rfl
 |[_]=>rfl
 |x::z::r=>by show tl (x++y++Str.join y (z::r))=tl x++(tl y++mX V0 ((z::r).map tl));rw[CL,CL,HX y (z::r),eC]
theorem join_eq(y:Str)(parts:Zc):Txt.join y parts=Str.join y parts:=glued_eq_join y parts
def gg(n:Nat):Za:=(Nat.toDigits 10 n).map Char.toNat
def iw(st:List Za×List Nat)(c:Nat):List Za×List Nat:=
 if Unicode.isSpace c=true then(if st.2=[]then st else(st.1++[st.2],[]))else(st.1,st.2++[c])
def qD(st:List Za×List Nat):Yv:=if st.2=[]then st.1 else st.1++[st.2]
theorem Et(x:Str):x.length=0↔tl x=[]:=by rw[mV];exact Cn
theorem ahf(ws:Zc)(u:Str)(c:Nat):((Zas c).1.map tl,tl (Zas c).2)=ZeH c:=by
 by_cases hc:Unicode.isSpace c=true
 ·by_cases hu:u.length=0
  ·have a:Zas c=(ws,u):=(af hc).trans (af hu);have b:ZeH c=(ws.map tl,tl u):=(af hc).trans (af ((Et u).mp hu));rw[a,b]<;>rfl
  ·have a:Zas c=(ws++[u],Str.empty):=(af hc).trans (ae hu);have b:ZeH c=(ws.map tl++[tl u],[]):=(af hc).trans (ae λz=>hu ((Et u).mpr z));rw[a,b];show((ws++[u]).map tl,([]:List Nat))=_;rw[cA]<;>rfl
 ·have a:Zas c=(ws,u++⟨#[c]⟩):=ae hc;have b:ZeH c=(ws.map tl,tl u++[c]):=ae hc;rw[a,b];show(ws.map tl,tl (u++⟨#[c]⟩))=_;rw[CL]<;>rfl
theorem RF:∀(l:Za) (st:KWd.St),((l.foldl KWd.step st).1.map tl,tl (l.foldl KWd.step st).2)=l.foldl iw (st.1.map tl,tl st.2)
 |[],_=>rfl
 |c::r,(ws,u)=>by show((r.foldl KWd.step (Zas c)).1.map tl,tl (r.foldl KWd.step (Zas c)).2)=r.foldl iw (ZeH c);exact(RF r (Zas c)).trans (cb (λz=>r.foldl iw z) (ahf ws u c))
theorem aoG:∀q:KWd.St,(KWd.fin q).map tl=qD (q.1.map tl,tl q.2)
 |(ws,u)=>by
  show(if u.length=0 then ws else ws++[u]).map tl=(if tl u=[]then ws.map tl else ws.map tl++[tl u]);by_cases hu:u.length=0
  ·rw[af hu,af ((Et u).mp hu)]
  ·rw[ae hu,ae (λz=>hu ((Et u).mpr z)),cA]<;>rfl
theorem age(x:Str):(Txt.words x).map tl=qD ((tl x).foldl iw ([],[])):=by rw[KWd.words_scan];exact(aoG (KWd.scan x)).trans (cb qD (RF (tl x) ([],Str.empty)))
theorem al2{c:Nat}(h1:33<=c)(h2:c<=126):Unicode.isSpace c=false:=PySem.W.KWk.nosp h1 h2
end TL
end
namespace L2
open PySem PySem.Spec PyProof.Rows
theorem P8:∀l:List (Str×Tok),Vals ((l.map Zh).map V.str) (strValues l)
 |[]=>.nil
 |p::r=>.cons ⟨p.2,rfl⟩ (P8 r)
theorem Ie:∀{ys:Zc} {us:Zp},Vals Zbx us->StrsAre us ys
 |[],_,.nil =>.nil
 |y::ys,_,.cons r t=>by obtain⟨k,rfl⟩:=r;exact .cons y k (Ie t)
def Aa(ys:Zc):Hp->VK->Prop:=λH Q=>∀p,H p=none->Q Z7 (Zw p (.lst Zbx))
section
variable {X:Cx}{pins:Zx}{σ:St}{H:Hp}{s:Shared}{Q:VK}
theorem Az{l:List (Str×Tok)}{ys:Zc}{k:Nat}(I:Zg)(e:l.map Zh=ys)(hz:ZhA)(h:Aa ys H Q):
  EP X pins σ Q Ys {s with toks:=k,heap:=s.heap.push {cls:=.type "list",data:=.seq (strValues l).toArray}}:=by
 have hp:=X1;refine⟨Ys,Wl (.lst Zbx),I.laid ZhR ZC ⟨by rw[aq];exact hz,strValues l,_,?_,dj _ rfl⟩,rfl,h _ hp⟩;rw[←e];exact P8 l
end
section
variable {X:Cx}
theorem akX:oP X "str.split" Zn6:=by
 ext a0;obtain⟨a,b,rfl,rfl,hb,hz,h⟩:=h;ext h;cases rs with
 |cons r1 rs=>
  cases rs
  obtain⟨u,rfl⟩:=r1;have hl:(Zji b).length <=sizeLine:=cq (PyProof.Rows.split_le a b) hz;have hn:(Builtin.Str.partsBetween a (Zp6 Zc2) b.length).length <=sizeLine:=by have e1:=StrLaws.occ_length_le a b 0 a.length Zc2;rw[length_partsBetween];omega
  cases h1:(decide (a.length<b.length)||decide (Builtin.Str.strKind a<Builtin.Str.strKind b))
  ·cases hf:(Zp6 Zc2).isEmpty
   ·refine Zku (meets_str_split_sep a b t u h1 hb hf Zb hn) ?_;show YB Ys {s with toks:=_,heap:=s.heap.push {cls:=.type "list",data:=.seq (strsFrom s.toks (Builtin.Str.partsBetween a (Builtin.Str.occurrences a b 0 a.length (a.length+1)) b.length)).toArray}};rw[strsFrom_eq];exact Az (ys:=Zji b) I ((numbered_texts _ _).trans ((ae (Kx h1)).trans (ae (Kx hf))).symm) hl h
   ·refine Zku (meets_str_split_not_found a b t u h1 hb hf) ?_;exact Zo8 I ((ae (Kx h1)).trans (af hf)).symm hl h
  ·refine Zku (meets_str_split_cannot_occur a b t u h1) ?_;exact Zo8 I (af h1).symm hl h
theorem agg(x:Str):(Txt.words x).length <=x.length+1:=by have e1:=StrLaws.words_weight x;omega
theorem akW:oP X "str.split" Zom:=by
 ext a0;obtain⟨a,rfl,rfl,hz,h⟩:=h;ext h;cases rs
 have hl:(Txt.words a).length <=sizeLine:=cq (agg a) Zb;have hn:(ZkW Zc2).length <=sizeLine:=by have e1:=(StrLaws.sw_weight a).1;have e2:=StrLaws.len_le_wsum (ZkW Zc2);omega
 refine qg Cr (sG _ _ _) Pq (F.args_str_split_1 _) (meets_str_split_space a t Zb hn) ?_;cases hw:ZkW Zc2==[(0,a.length)]
 ·simp only[kg,i5];rw[strsFrom_eq];exact Az (ys:=Txt.words a) I ((numbered_texts _ _).trans (ae (Kx hw)).symm) hl h
 ·simp only[iD];exact Az (l:=[(a,t)]) (ys:=Txt.words a) (k:=s.toks) I (af hw).symm hl h
theorem akY:oP X "str.join" (λx xs H Q=>∃a p,∃ys:List Str,x=.str a/\xs=[.ref p]/\(ZaY p Zbx∨Za0 p Zbx)/\
  (ys.map (·.length)).sum +ys.length*a.length<=16777216/\Q (.str (Txt.join a ys)) H):=by
 ext a0;obtain⟨a,p,ys,rfl,rfl,hp,hz,h⟩:=h;ext h;cases rs with
 |cons r1 rs=>
  cases rs
  cases r1
  rcases hp with hp|hp
  ·obtain⟨its,r,⟨o,n,ho,hc,_,hd⟩,_⟩:=I.list hp;exact PyProof.Rows.join_list (items:=its.toArray) ⟨o,ho,hc,n,hd⟩ (by rw[List.toList_toArray];exact Ie r) hz λt' k=>Zqt
  ·obtain⟨its,r,ht,_⟩:=I.tuple hp;exact PyProof.Rows.join_tuple (items:=its.toArray) ht (by rw[List.toList_toArray];exact Ie r) hz λt' k=>Zqt
theorem arp:gJ X (.type "int") (λxs H Q=>∃a n,xs=[.str a]/\PySem.intText? a=some n/\a.length<=640/\Q ZdT H):=by
 intro pins s σ H xs us Q I rs h;obtain⟨a,n,rfl,hn,hl,h⟩:=h;cases rs with
 |cons r1 rs=>
  cases rs
  obtain⟨t,rfl⟩:=r1;exact PySem.W.KIN.call_text hn hl ⟨ZdT,H,YJ,Zs,h⟩
end
section
variable {X:Cx}{o e:Expr}{to te:TE}
def sI(r:V8)(to:TE):TE:=fun σ H Q=>to σ H λx H1=>(∃a,x=.str a)/\r x [] H1 Q
def qH(r:V8)(to te:TE):TE:=fun σ H Q=>to σ H λx H1=>(∃a,x=.str a)/\te σ H1 λy H2=>r x [y] H2 Q
theorem aix{id:String}{name:Str}{apos pos:Pos}{r:V8}(slot:Slot "str" name id)(ty:ZgF)(rule:oP X id r)(ho:UU)
  (lA:Ziv Uo=Za9 X.env:=by rfl) (lx:(apos.endLine==pos.line)=true:=by rfl):Zt (.Call Zic [] [] pos) (sI r to):=by
 ext f;refine PySem.Call_method0 lA lx ZpK;ext ci;exact⟨"str",_,F.plainAttrs_str,slot,ty,sG _ _ _,(λ_ e=>nomatch e),Py rfl (PySem.evalArgs_none (rule pins s1 σ H1 _ [] _ [] Q I1 r1 .nil q1))⟩
theorem aar{id:String}{name:Str}{apos pos:Pos}{r:V8}(slot:Slot "str" name id)(ty:ZgF)(rule:oP X id r)(ho:UU)(he:XR)
  (hs:starEach [e] X.env=[(false,Yz)]:=by rfl) (lA:Ziv Uo=Za9 X.env:=by rfl) (lx:(apos.endLine==pos.line)=true:=by rfl):
  PE X (.Call Zic [e] [] pos) (qH r to te):=by
 ext f;refine PySem.Call_method1 lA hs lx ZpK;ext ci;refine⟨"str",_,F.plainAttrs_str,slot,ty,sG _ _ _,(λ_ e=>nomatch e),Py rfl (afY (Hn ?_))⟩;exact aN Zso λu s2 ⟨y,H2,I2,r2,q2⟩=>Pr (rule pins s2 σ H2 _ [y] _ [u] Q I2 r1 (.cons r2 .nil) q2)
theorem ait{apos pos:Pos}(ho:UU)(he:XR)(hs:starEach [e] X.env=[(false,Yz)]:=by rfl)(lA:Zev "split" X.env Uo=Za9 X.env:=by rfl)(lx:(apos.endLine==pos.line)=true:=by rfl):
  PE X (.Call (Zbl "split" apos) [e] [] pos) (qH Zn6 to te):=
 aar Cr F.type_str_split akX ho he hs lA lx
theorem aiq{apos pos:Pos}(ho:UU)(lA:Zev "split" X.env Uo=Za9 X.env:=by rfl)(lx:(apos.endLine==pos.line)=true:=by rfl):
  PE X (.Call (Zbl "split" apos) [] [] pos) (sI Zom to):=
 aix Cr F.type_str_split akW ho lA lx
theorem aat{apos pos:Pos}(ho:UU)(he:XR)(hs:starEach [e] X.env=[(false,Yz)]:=by rfl)(lA:Zev "join" X.env Uo=Za9 X.env:=by rfl)(lx:(apos.endLine==pos.line)=true:=by rfl):
  PE X (.Call (Zbl "join" apos) [e] [] pos) (qH (λx xs H Q=>∃a p,∃ys:List Str,x=.str a/\xs=[.ref p]/\(ZaY p Zbx∨Za0 p Zbx)/\
   (ys.map (·.length)).sum +ys.length*a.length<=16777216/\Q (.str (Txt.join a ys)) H) to te):=
 aar F.slot_str_join F.type_str_join akY ho he hs lA lx
end
end L2
namespace L2
open PySem PySem.Spec PyProof.Rows
section
variable {X:Cx}
theorem Kt:Zhz (λx y H Q=>∃(c:Nat) (z:Str),x=.str ZbV/\y=.str z/\Q (.bl (decide (c∈z.cps.toList))) H):=by intro pins s σ H x y v u Q I rx ry h;obtain⟨c,z,rfl,rfl,q⟩:=h;obtain⟨t,rfl⟩:=rx;obtain⟨t',rfl⟩:=ry;exact PyProof.Rows.in_str (dC I q (ash z c).symm)
theorem aiO:Zlc (λx y H Q=>∃(c:Nat) (z:Str),x=.str ZbV/\y=.str z/\Q (.bl (!decide (c∈z.cps.toList))) H):=by intro pins s σ H x y v u Q I rx ry h;obtain⟨c,z,rfl,rfl,q⟩:=h;obtain⟨t,rfl⟩:=rx;obtain⟨t',rfl⟩:=ry;exact PyProof.Rows.notIn_str (Vy (cb Bool.not (ash z c).symm))
end
end L2
namespace Att
open PySem PySem.W PySem.Calls PyProof.Rows
section
variable {prog:Program}{w:World}{A:Around}{E:Zu}{s:Shared}{K:Frag}
end
end Att
namespace L2
open PySem PySem.Spec PyProof.Rows
theorem P9:∀{vs:Zp} {ns:ZK},IntsAre vs ns->Vals Ze7 vs
 |_,_,.nil =>.nil
 |_,_,.cons n t h=>.cons Vl (P9 h)
end L2
namespace L2
open PySem PySem.Spec PyProof.Rows
end L2
namespace L2
open PySem PySem.Spec PyProof.Rows
def inClass(s:Stmt)(j:Nat):Stmt:=match s with
 | .ClassDef _ _ _ body _ _ _ _ _ _ _=>body.getD j Zhq
 |_=>Zhq
def uV(s:Stmt):Arguments:=match s with
 | .FunctionDef _ a _ _ _ _ _ _ _ _=>a
 |_=>{posonlyargs:=[],args:=[],vararg:=none,kwonlyargs:=[],kw_defaults:=[],kwarg:=none,defaults:=[]}
def oH(s:Stmt):WU:=match s with
 | .FunctionDef _ _ b _ _ _ _ _ _ _=>b
 |_=>[]
def aA(s:Stmt):Scope:=match s with
 | .FunctionDef _ _ _ _ _ _ sc _ _ _=>sc
 |_=>{kind:=.function,names:=[],isGenerator:=false,isCoroutine:=false}
abbrev aP:qx:=λ_ _ _ _ _ _=>False
abbrev E0:XK:=λ_ _ _=>False
theorem D1{X:Cx}:Passes aP X E0:=λ_ _ _ _ _ _ _ h=>h.elim
structure aS(K:PySem.W.Frag)(x qual:Str)(st:Stmt)(f:Addr)(fd:FuncData):Prop where
 ex:∃(oc:Value) (od:Wt) (kV doc pm:Value) (an:Wt) (aG ct:Value) (jl:Zdu),
  fd=Zd1 ct/\K.lookup f=some ⟨oc,od,.func fd,jl⟩/\ZeG qual=true
 kp:Uh Yn=true
section
variable {P:Program}{w:World}{K:PySem.W.Frag}{mg:Zy}{base:Heap}
theorem aS.ok{x qual:Str}{st:Stmt}{f:Addr}{fd:FuncData}{N ps:Zc}{k:Nat}{sp:Sp}(F:Zij fd)(S:aV N ps ZdW)(len:ZjV)
  (Bc:∀(aG:Value) (A:Around) (outer:WX) (s:Shared) (H:Hp) (vs:Ze) (Q:VK) (E:XK),eA k (A.deeper (Zqa aG))->Zdl->
   ∃t,jb (r6 aP P w K mg base N qual (aA st) f aG A outer s H E).mT (oH st) t/\t {nx:=λ_ H'=>Q .ba H',rt:=Q} (start N vs) H):aM P w K mg base aP (k+1) f fd ps sp:=by
 ext aU;refine adn lk lz S len λA outer s H vs Q E hr oq=>?_;obtain⟨t,h,q⟩:=Bc aG A outer s H vs Q E hr oq;exact⟨t,h.mT,q⟩
theorem aS.binds{x qual:Str}{st:Stmt}{f:Addr}{fd:FuncData}{ps:Zc}(F:Zij fd)
  (h:∀(kV doc pm:Value) (an:Wt) (aG ct:Value) (us:Zp),us.length=ps.length->bindArgs (Zd1 ct) ZfK=pure ZbK):UC ps []:=by
 ext aU;exact .all (h kV doc pm an aG ct)
theorem FH{x qual:Str}{st:Stmt}{f:Addr}{oc:Value}{od an:Wt}{jl:Zdu}{kV doc pm aG ct:Value}(l:K.lookup f=some ⟨oc,od,.func (Zd1 ct),jl⟩)
  (c:ZeG qual=true) (k:Uh Yn=true):Zij (Zd1 ct):=⟨⟨oc,od,kV,doc,pm,an,aG,ct,jl,rfl,l,c⟩,k⟩
end
theorem gi{A:Around}{k:Nat}(hr:eA k A):A.units+1<cLine:=Nat.lt_of_le_of_lt (Nat.add_le_add_left (by decide:1<=64) _) hr.units
section
variable {X:Cx}
theorem pv(i:Nat){x:Str}{pos:Pos}(hN:X.N[i]? =some x:=by rfl)(hv:Zfb x:=by first |exact Or.inl rfl|exact Or.inr (Or.inl rfl)|exact Or.inr (Or.inr rfl))(hd:(x==("__debug__":Str))=false:=by decide)
  (lz:(x==("__classdict__":Str))=false:=by decide):Zt Um (lL i):=air hN hv hd lz
end
theorem aF{A B:Prop}(h:B):if false=true then A else B:=by rw[ae eh];exact h
theorem aI{A B:Prop}(h:A):if true=true then A else B:=by rw[af rfl];exact h
def ah(H H':Hp):Prop:=∀b o,H b=some o->H' b=some o
section
variable {κ:Type}[DecidableEq κ]
theorem El:∀{l:List κ} {k:κ},l.Nodup->¬k∈l->(l++[k]).Nodup
 |[],k,_,_=>by simp
 |a::r,k,h,hk=>by
  obtain⟨h1,h2⟩:=df.mp h;show(a::(r++[k])).Nodup;refine df.mpr ⟨λm=>?_,El h2 λm=>hk (aJ.mpr (Or.inr m))⟩;rcases b8.mp m with q|q
  ·exact h1 q
  ·exact hk (aJ.mpr (Or.inl (bo.mp q).symm))
end
end L2
section
set_option maxRecDepth 100000
set_option maxHeartbeats 2000000
namespace L2
open PySem PySem.Spec PyProof.Rows
open PySem.W (WData Codec OpenSpec Well WellAll ReadsW ReadsAllW)
mutual
inductive Dw(K:PySem.W.Frag)(H:Hp):V->WData->Prop
 |ba:Dw K H .ba .none
 |bl (b:Bool):Dw K H (.bl b) (.bool b)
 |int (i:Int):Dw K H (.int i) (.int i)
 |str (x:Str):Dw K H (.str x) (.str x)
 |gr (b:Array UInt8):Dw K H (.gr b) (.bytes b.toList)
 |lst {a:Addr} {xs:List V} {ds:List WData}:ag K H a xs->kf K H xs ds->Dw K H (.ref a) (.list ds)
 |tup {a:Addr} {xs:List V} {ds:List WData}:bM K H a xs->kf K H xs ds->Dw K H (.ref a) (.tuple ds)
inductive kf(K:PySem.W.Frag)(H:Hp):Ze->Wu->Prop
 |nil:kf K H [] []
 |cons {v:V} {vs:List V} {d:WData} {ds:List WData}:Dw K H v d->kf K H vs ds->kf K H (v::vs) (d::ds)
end
theorem adG{K:PySem.W.Frag}{H:Hp}:∀ns:List Int,kf K H Ze7 (ns.map WData.int)
 |[]=>.nil
 |n::r=>.cons ZdT (adG r)
theorem ab7{K:PySem.W.Frag}{H:Hp}:∀(ns:ZK) (xs:Ze),kf K H xs (ns.map WData.int)->xs=ns.map V.int
 |[],xs,h=>by
  cases h
  rfl
 |n::r,xs,h=>by
  cases h with
  |cons h1 h2=>
   cases h1
   rw[ab7 r _ h2]<;>rfl
section
variable {P:Program}{w:World}{K:PySem.W.Frag}{H:Hp}{h:Heap}{R:PySem.W.WRecords}{cl:Str->Wt}
theorem ahk{a:Addr}{xs:Ze}(aC:Xq)(KX:Vw)(q:YO):∃(its:Zp) (o:Obj) (n:Nat),U0/\h.get? a=some o/\o.cls=.type "list"/\o.data=VE n:=by
 rcases q with q|⟨o,its,n,e,hc,_,hd,_,hv⟩
 ·obtain⟨_,its,n,hv,e⟩:=(show Vh Yq from q.ok aC);exact⟨its,_,n,hv,e,rfl,rfl⟩
 ·exact Zpi
theorem ahj{a:Addr}{xs:Ze}(aC:Xq)(KX:Vw)(q:VJ):∃(its:Zp) (o:Obj) (n:Nat),U0/\h.get? a=some o/\o.cls=.type "tuple"/\o.data=VE n:=by
 rcases q with q|⟨o,its,n,e,hc,hd,_,hv⟩
 ·obtain⟨_,its,hv,o,e,hc,n,hd⟩:=(show Vh Vk from q.ok aC);exact⟨its,o,n,hv,e,hc,hd⟩
 ·exact Zpi
mutual
theorem Dw.reads(aC:Xq)(KX:Vw):∀(d:WData) (v:V) (u:Value),Dw K H v d->XQ->∃as,ReadsW R cl h u d as
 | .none,_,_,x,r=>by
  cases x
  cases r
  exact⟨_,ReadsW.none⟩
 | .bool b,_,_,x,r=>by
  cases x
  cases r
  exact⟨_,ReadsW.bool b⟩
 | .int i,_,_,x,r=>by
  cases x
  ext A;exact⟨_,ReadsW.int i t⟩
 | .str s,_,_,x,r=>by
  cases x
  ext A;exact⟨_,ReadsW.str s t⟩
 | .bytes b,_,_,x,r=>by
  cases x
  ext A;exact⟨_,ReadsW.bytes _ t⟩
 | .list ds,_,_,x,r=>by
  cases x with
  |lst hs ha=>
   cases r
   obtain⟨its,o,n,rv,ho,hc,hd⟩:=ahk aC KX hs;obtain⟨as,hr⟩:=Zlm its ha rv;exact⟨_,ReadsW.list ho hc hd hr⟩
 | .tuple ds,_,_,x,r=>by
  cases x with
  |tup hs ha=>
   cases r
   obtain⟨its,o,n,rv,ho,hc,hd⟩:=ahj aC KX hs;obtain⟨as,hr⟩:=Zlm its ha rv;exact⟨_,ReadsW.tuple ho hc hd hr⟩
 | .float _,_,_,x,_=>by cases x
 | .dict _,_,_,x,_=>by cases x
 | .bytearray _,_,_,x,_=>by cases x
 | .set _,_,_,x,_=>by cases x
 | .frozenset _,_,_,x,_=>by cases x
 | .obj _ _,_,_,x,_=>by cases x
theorem Dw.readsAll(aC:Xq)(KX:Vw):∀(ds:Wu) (vs:Ze) (us:Zp),kf K H vs ds->ZaI->∃as,ReadsAllW R cl h us ds as
 |[],_,_,x,r=>by
  cases x
  cases r
  exact⟨_,ReadsAllW.nil⟩
 |d::ds,_,_,x,r=>by
  cases x with
  |cons h1 h2=>
   cases r with
   |cons r1 r2=>
    obtain⟨as,q1⟩:=Dw.reads aC KX d _ _ h1 r1;obtain⟨bs,q2⟩:=Zlm _ h2 r2;exact⟨_,ReadsAllW.cons q1 q2⟩
end
end
mutual
def kh:WData->Bool
 | .none =>true
 | .bool _=>true
 | .int _=>true
 | .str _=>true
 | .bytes _=>true
 | .list xs=>lS xs
 | .tuple xs=>lS xs
 |_=>false
def lS:Wu->Bool
 |[]=>true
 |x::r=>kh x&&lS r
end
theorem aak{α:Type}{f:α->WData}(h:∀a,kh (f a)=true):∀l:List α,lS (l.map f)=true
 |[]=>rfl
 |x::r=>by show(kh (f x)&&lS (r.map f))=true;rw[h x,aak h r]<;>rfl
theorem qR:∀(c:Codec) (a:c.denote),kh (c.enc a)=true
 | .unit,_=>rfl
 | .bool,_=>rfl
 | .int _ _,_=>rfl
 | .nat _ _,_=>rfl
 | .u8,_=>rfl
 | .bytes _ _,_=>rfl
 | .text _ _ _ _,_=>rfl
 | .list _ _ c,a=>aak (λx=>qR c x) a
 | .pair c d,a=>by show(kh (c.enc a.1)&&(kh (d.enc a.2)&&true))=true;rw[qR c a.1,qR d a.2]<;>rfl
 | .triple c d e,a=>by show(kh (c.enc a.1)&&(kh (d.enc a.2.1)&&(kh (e.enc a.2.2)&&true)))=true;rw[qR c a.1,qR d a.2.1,qR e a.2.2]<;>rfl
 | .option c,none=>rfl
 | .option c,some x=>qR c x
theorem aag:∀(cs:List Codec) (a:Codec.denoteAll cs),lS (Zii a)=true
 |[],_=>rfl
 |c::cs,a=>by show(kh (c.enc a.1)&&lS (Zii a.2))=true;rw[qR c a.1,aag cs a.2]<;>rfl
theorem HQ:∀{xs:Wu} {d:WData},d∈xs->d.weight<=WData.weightAll xs
 |[],d,h=>ZdL Zf
 |x::r,d,h=>by
  show d.weight<=x.weight+1+WData.weightAll r;rcases aJ.mp h with e|m
  ·rw[e];omega
  ·have z:=HQ m;omega
def toV:Value->V
 | .none =>.ba
 | .bool b=>WB
 | .int i _=>Xs
 | .str x _=>U1
 | .bytes b _=>.gr b
 | .ref a=>ZY
 |_=>.ba
def lJ(A:Zz):Value->Prop
 | .none =>True
 | .bool _=>True
 | .int _ _=>True
 | .str _ _=>True
 | .bytes _ _=>True
 | .ref a=>a∈A
 |_=>False
theorem lJ.mono{A B:Zz}(h:∀a∈A,a∈B):∀{u:Value},U4->lJ B u:=λ{u} x=>by
 cases u with
 |ref a=>exact h a x
 |none=>trivial
 |bool b=>trivial
 |int i t=>trivial
 |str s t=>trivial
 |bytes b t=>trivial
 |_=>exact Zfq
theorem ahR{A:Zz}{u:Value}(x:U4):RelV (toV u) u:=by
 cases u with
 |ref a=>rfl
 |none=>rfl
 |bool b=>rfl
 |int i t=>exact Vl
 |str s t=>exact Vl
 |bytes b t=>exact Vl
 |_=>exact Zfq
theorem qE{A:Zz}:∀{vs:Zp},(∀u∈vs,U4)->Vals ZbG vs
 |[],_=>.nil
 |u::r,h=>.cons (ahR (h u (aY ..))) (qE λx hx=>h x ZaS)
def mH(h:Heap)(A:Zz)(a:Addr):Prop:=∃vs:List Value,vs.length<=sizeLine/\(∀u∈vs,U4)/\
 (h.get? a=some {cls:=Yk,data:=.seq vs.toArray}∨h.get? a=some {cls:=Xz,data:=.seq vs.toArray})
theorem mH.mono{h:Heap}{A B:Zz}{a:Addr}(k:∀a∈A,a∈B)(x:mH h A a):mH h B a:=by obtain⟨vs,h1,h2,h3⟩:=x;exact⟨vs,h1,λu hu=>(h2 u hu).mono k,h3⟩
theorem CC{P:Params}{h:Heap}:∀{vs:Zp} {ds:Wu},Ze9 ds->vs.length=ds.length
 |_,_,.nil =>rfl
 |_,_,.cons _ b=>by show _+1=_+1;rw[CC b]
theorem P5{P:Params}{h:Heap}{v:Value}{ds:Wu}(x:Zjt (.list ds)):∃(a:Addr) (vs:Zp),v=.ref a/\h.get? a=some {cls:=Yk,data:=.seq vs.toArray}/\Ze9 ds:=by
 cases x with
 |list ho dB=>exact⟨_,_,rfl,ho,dB⟩
theorem P4{P:Params}{h:Heap}{v:Value}{ds:Wu}(x:Zjt (.tuple ds)):∃(a:Addr) (vs:Zp),v=.ref a/\h.get? a=some {cls:=Xz,data:=.seq vs.toArray}/\Ze9 ds:=by
 cases x with
 |tuple ho dB=>exact⟨_,_,rfl,ho,dB⟩
theorem P6{P:Params}{h:Heap}{us:Zp}{d:WData}{ds:Wu}(x:WellAll P h us (d::ds)):∃(v:Value) (vs:Zp),us=v::vs/\Zjt d/\Ze9 ds:=by
 cases x with
 |cons a b=>exact⟨_,_,rfl,a,b⟩
theorem abn{n:Nat}(h:n<=1048576):n<=sizeLine:=cq h Zj
section
variable {P:Params}{h:Heap}
mutual
theorem arZ:∀(d:WData) (v:Value),Zjt d->kh d=true->d.weight<=1048576->∃A:List Addr,lJ A v/\∀a∈A,mH h A a
 | .none,_,x,_,_=>by
  cases x
  exact Zea
 | .bool b,_,x,_,_=>by
  cases x
  exact Zea
 | .int i,_,x,_,_=>by
  cases x
  exact Zea
 | .str s,_,x,_,_=>by
  cases x
  exact Zea
 | .bytes b,_,x,_,_=>by
  cases x
  exact Zea
 | .list ds,_,x,p,z=>by
  obtain⟨a,vs,rfl,ho,dB⟩:=P5 x;have z2:WData.weightAll ds<=1048576:=z;obtain⟨A,h1,h2⟩:=F5 ds _ dB p λd hd=>cq (HQ hd) z2;have k:∀b∈A,b∈a::A:=λb hb=>Za3;refine Ztr;rcases aJ.mp hb with e|m
  ·rw[e];exact⟨vs,ZpZ,λu hu=>(h1 u hu).mono k,.inl ho⟩
  ·exact(h2 b m).mono k
 | .tuple ds,_,x,p,z=>by
  obtain⟨a,vs,rfl,ho,dB⟩:=P4 x;have z2:WData.weightAll ds<=1048576:=z;obtain⟨A,h1,h2⟩:=F5 ds _ dB p λd hd=>cq (HQ hd) z2;have k:∀b∈A,b∈a::A:=λb hb=>Za3;refine Ztr;rcases aJ.mp hb with e|m
  ·rw[e];exact⟨vs,ZpZ,λu hu=>(h1 u hu).mono k,.inr ho⟩
  ·exact(h2 b m).mono k
 | .float _,_,_,p,_=>WH
 | .dict _,_,_,p,_=>WH
 | .bytearray _,_,_,p,_=>WH
 | .set _,_,_,p,_=>WH
 | .frozenset _,_,_,p,_=>WH
 | .obj _ _,_,_,p,_=>WH
theorem F5:∀(ds:Wu) (vs:Zp),Ze9 ds->lS ds=true->(∀d∈ds,d.weight<=1048576)->∃A:List Addr,(∀u∈vs,U4)/\∀a∈A,mH h A a
 |[],_,x,_,_=>by
  cases x
  exact⟨[],λu m=>absurd m Zf,λa m=>absurd m Zf⟩
 |d::ds,_,x,p,z=>by
  obtain⟨v,vs,rfl,x1,x2⟩:=P6 x;have q:kh d=true/\lS ds=true:=Zs7;obtain⟨A,a1,a2⟩:=arZ d v x1 q.1 (z d (aY ..));obtain⟨B,b1,b2⟩:=F5 ds vs x2 q.2 λe he=>z e (ZD he);have kA:∀b∈A,b∈A++B:=λb hb=>b8.mpr (.inl hb);have kB:∀b∈B,b∈A++B:=λb hb=>b8.mpr (.inr hb);refine⟨A++B,λu hu=>?_,λb hb=>?_⟩
  ·rcases aJ.mp hu with e|m
   ·rw[e];exact a1.mono kA
   ·exact(b1 u m).mono kB
  ·rcases b8.mp hb with m|m
   ·exact(a2 b m).mono kA
   ·exact(b2 b m).mono kB
end
end
def E6(o:Obj):ZaL:=match o.data with
 | .seq vs _=>if(o.cls==Value.type "list")=true then some (.bL o (.lst (vs.toList.map toV)))else some (.bL o (.tup (vs.toList.map toV)))
 |_=>none
def kM(K:PySem.W.Frag)(h:Heap)(A:Zz):Hp:=λb=>if b∈A then(if(K.lookup b).isNone =true then(h.get? b).bind E6 else none)else none
def aeP(H:Hp):Prop:=∀b,H b=none∨∃o u,H b=some ZaK
theorem acy(vs:Zp):E6 {cls:=Yk,data:=.seq vs.toArray}=some (.bL {cls:=Yk,data:=.seq vs.toArray} (.lst ZbG)):=by show(if(Value.type "list"==Value.type "list")=true then some (HO.bL {cls:=Yk,data:=.seq vs.toArray} (.lst Zg3))else some (HO.bL {cls:=Yk,data:=.seq vs.toArray} (.tup Zg3)))=_;rw[af (r9 _)]
theorem acx(vs:Zp):E6 {cls:=Xz,data:=.seq vs.toArray}=some (.bL {cls:=Xz,data:=.seq vs.toArray} (.tup ZbG)):=by show(if(Value.type "tuple"==Value.type "list")=true then some (HO.bL {cls:=Xz,data:=.seq vs.toArray} (.lst Zg3))else some (HO.bL {cls:=Xz,data:=.seq vs.toArray} (.tup Zg3)))=_;rw[ae Zj]
section
variable {P:Program}{w:World}{K:PySem.W.Frag}{h:Heap}{A:Zz}
theorem F4{b:Addr}{o:Obj}(hb:b∈A)(hk:K.lookup b=none)(e:Zns):Vo b=E6 o:=by unfold kM;rw[af hb,hk,af (show(none:Option Obj).isNone =true from rfl),e]<;>rfl
theorem aky{b:Addr}{u:HO}(q:Vo b=some u):b∈A/\K.lookup b=none:=by
 unfold kM at q;by_cases hb:b∈A
 ·rw[af hb]at q;cases hk:K.lookup b with
  |none=>exact⟨hb,rfl⟩
  |some o=>
   rw[hk,ae Zf]at q;cases q
 ·rw[ae hb]at q;cases q
theorem BL(ar:Zbo){b:Addr}{u:HO}(q:Vo b=some u):K.lookup b=none/\∃vs:List Value,vs.length<=sizeLine/\(∀u∈vs,U4)/\
    ((h.get? b=some {cls:=Yk,data:=.seq vs.toArray}/\u=.bL {cls:=Yk,data:=.seq vs.toArray} (.lst ZbG))∨
     (h.get? b=some {cls:=.type "tuple",data:=.seq vs.toArray}/\u=.bL {cls:=.type "tuple",data:=.seq vs.toArray} (.tup (vs.map toV)))):=by
  obtain⟨hb,hk⟩:=aky q;obtain⟨vs,h1,h2,h3⟩:=ar b hb;refine⟨hk,vs,h1,h2,?_⟩;rcases h3 with e|e
  · rw[F4 hb hk e,acy]at q;exact .inl ⟨e,(bY q).symm⟩
  · rw[F4 hb hk e,acx]at q;exact .inr ⟨e,(bY q).symm⟩
theorem arX(ar:Zbo):aeP Vo:=λb=>by
 cases q:Vo b with
 |none=>exact .inl rfl
 |some u=>
  obtain⟨_,vs,_,_,⟨_,e⟩|⟨_,e⟩⟩:=BL ar q
  ·exact .inr ⟨_,_,by rw[e]⟩
  ·exact .inr ⟨_,_,by rw[e]⟩
theorem arY(ar:Zbo):Za8 Vo h:=λb u q=>by
 ext cr
 ·exact⟨e,ZkK,vs,_,qE h2,e⟩
 ·exact Zrn
theorem Dc{c c':Value}{vs us:Zp}(e:(some {cls:=c,data:=.seq vs.toArray}:Option Obj)=some {cls:=c',data:=.seq us.toArray}):c=c'/\vs=us:=by
 have e1:=bY e;have e2:c=c':=cb Obj.cls e1;have e3:Data.seq vs.toArray=Data.seq us.toArray:=cb Obj.data e1;injection e3 with e4
 refine⟨e2,?_⟩;have e5:=cb Array.toList e4;simpa using e5
theorem arW(KX:Vw)(ar:Zbo){a:Addr}{vs:Zp}(ha:a∈A)(e:h.get? a=some {cls:=Yk,data:=.seq vs.toArray}):(∀u∈vs,U4)/\ag K Vo a ZbG:=by
 obtain⟨us,h1,h2,h3⟩:=ar a ha;have hu:us=vs:=by
  rcases h3 with q|q
  ·rw[e]at q;exact(Dc q).2.symm
  ·rw[e]at q;exact Zqx
 subst hu;refine⟨h2,?_⟩;cases hk:K.lookup a with
 |none=>exact .inl (.inr ⟨_,by rw[F4 ha hk e,acy]⟩)
 |some o=>
  ext cM;exact .inr ⟨_,us.toArray,_,hk,rfl,rfl,rfl,by rw[dR];exact h1,by simpa using qE h2⟩
theorem arV(KX:Vw)(ar:Zbo){a:Addr}{vs:Zp}(ha:a∈A)(e:h.get? a=some {cls:=Xz,data:=.seq vs.toArray}):(∀u∈vs,U4)/\bM K Vo a ZbG:=by
 obtain⟨us,h1,h2,h3⟩:=ar a ha;have hu:us=vs:=by
  rcases h3 with q|q
  ·rw[e]at q;exact Zqx
  ·rw[e]at q;exact(Dc q).2.symm
 subst hu;refine⟨h2,?_⟩;cases hk:K.lookup a with
 |none=>exact .inl (.inr ⟨_,by rw[F4 ha hk e,acx]⟩)
 |some o=>
  ext cM;exact .inr ⟨_,us.toArray,_,hk,rfl,rfl,by rw[dR];exact h1,by simpa using qE h2⟩
mutual
theorem aqf{Pm:Params}(KX:Vw)(ar:Zbo):∀(d:WData) (v:Value),Well Pm h v d->kh d=true->lJ A v->Dw K Vo (toV v) d
 | .none,_,x,_,_=>by
  cases x
  exact .ba
 | .bool b,_,x,_,_=>by
  cases x
  exact WB
 | .int i,_,x,_,_=>by
  cases x
  exact Xs
 | .str s,_,x,_,_=>by
  cases x
  exact .str s
 | .bytes b,_,x,_,_=>by
  cases x
  have z:=Dw.gr (K:=K) (H:=Vo) b.toArray;exact z
 | .list ds,_,x,p,hu=>by obtain⟨a,vs,rfl,ho,dB⟩:=P5 x;obtain⟨h2,hs⟩:=arW KX ar hu ho;exact .lst hs (Zje _ dB p h2)
 | .tuple ds,_,x,p,hu=>by obtain⟨a,vs,rfl,ho,dB⟩:=P4 x;obtain⟨h2,hs⟩:=arV KX ar hu ho;exact .tup hs (Zje _ dB p h2)
 | .float _,_,_,p,_=>WH
 | .dict _,_,_,p,_=>WH
 | .bytearray _,_,_,p,_=>WH
 | .set _,_,_,p,_=>WH
 | .frozenset _,_,_,p,_=>WH
 | .obj _ _,_,_,p,_=>WH
theorem FR{Pm:Params}(KX:Vw)(ar:Zbo):∀(ds:Wu) (vs:Zp),WellAll Pm h vs ds->lS ds=true->(∀u∈vs,U4)->kf K Vo ZbG ds
 |[],_,x,_,_=>by
  cases x
  exact .nil
 |d::ds,_,x,p,hu=>by obtain⟨v,vs,rfl,x1,x2⟩:=P6 x;have q:kh d=true/\lS ds=true:=Zs7;exact .cons (aqf KX ar d v x1 q.1 (hu _ (aY ..))) (Zje vs x2 q.2 λu m=>hu u (ZD m))
end
end
theorem alD{ds:Wu}(h:WData.layableAll ds=true):∀d∈ds,d.weight<=1048576:=λd hd=>
 (PySem.W.layableW_iff.mp (dh.mp h d hd)).2.2
theorem adC:∀(cs:List Codec) (a:Codec.denoteAll cs),(Zii a).length =cs.length
 |[],_=>rfl
 |c::cs,a=>by show(Zii a.2).length +1=cs.length+1;rw[adC cs a.2]
end L2
end
set_option maxRecDepth 100000
set_option maxHeartbeats 2000000
namespace Br
section
section
open PySem
open Sem (wp)
theorem af6(a b c:Value):checkTypeCall "zip" ⟨[a,b,c],[]⟩=pure ():=by kernel_rfl
theorem af7(a b c:Value):checkBuiltinCall "zip.__new__" ⟨[.type "zip",a,b,c],[]⟩=pure ():=by kernel_rfl
theorem aga(a b c d:Value):ZtG ⟨[a,b,c,d],[]⟩:=by unfold argsOk;rw[ZsM (n:="__tini__".toList) (o:="tcejbo".toList) Uk F.owner_object];kernel_rfl
abbrev iu(h:Heap)(T:Addr)(a b c:Value):Prop:=h.get? T=some {cls:=Xz,data:=.seq #[a,b,c]}
def dy(L:Zz)(h h':Heap):Prop:=∀c o,c∉L->h.get? c=some o->h'.get? c=some o
theorem dy.iter{L:Zz}{h h':Heap}{i l:Addr}{k:Nat}(q:dy L h h')(hi:i∉L)(x:h.IsListIter i l k):h'.IsListIter i l k:=x.at λo e=>q i o hi e
theorem dy.list{L:Zz}{h h':Heap}{l:Addr}{xs:YS}(q:dy L h h')(hi:l∉L)(x:h.IsList l xs):h'.IsList l xs:=x.at λo e=>q l o hi e
theorem dy.app{L M:Zz}{h h1 h2:Heap}(q:dy L h h1)(r:dy M h1 h2):dy (L++M) h h2:=λc o hc e=>r c o (λx=>hc (je _ x)) (q c o (λx=>hc (my _ x)) e)
theorem dy.mono{L M:Zz}{h h1:Heap}(q:dy L h h1)(k:∀a,a∈L->a∈M):dy M h h1:=λc o hc e=>q c o (λx=>hc (k c x)) e
theorem dy.one{a:Addr}{h h1:Heap}(q:Heap.SameBut a h h1):dy [a] h h1:=λc o hc e=>q.extBut c o Zp1 e
theorem dy.ext{a:Addr}{h h1:Heap}(q:Heap.ExtBut a h h1):dy [a] h h1:=λc o hc e=>q c o Zp1 e
structure zj(z TI TO i1 i2 i3 l1 l2 l3:Addr):Prop where
 PL:z≠TI
 vH:z≠TO
 z1:z≠i1
 z2:z≠i2
 z3:z≠i3
 TITO:TI≠TO
 TI1:TI≠i1
 TI2:TI≠i2
 TI3:TI≠i3
 F_:TO≠i1
 F9:TO≠i2
 F8:TO≠i3
 i12:i1≠i2
 i13:i1≠i3
 i23:i2≠i3
 o1:l1∉[z,TO,i1,i2,i3]
 o2:l2∉[z,TO,i1,i2,i3]
 o3:l3∉[z,TO,i1,i2,i3]
section
variable {prog:Program}{w:World}{A:Around}{E:Zu}{s:Shared}
theorem HU{T:Addr}{a b c x:Value}{k:Nat}{Q:Zah}(hT:iu s.heap T a b c)
  (h:∀h',h'.get? T=some {cls:=Xz,data:=.seq ((#[a,b,c]:Array Value).setIfInBounds k x)}->Heap.SameBut T s.heap h'->Q () {s with heap:=h'}):YF (updateSeq T (·.setIfInBounds k x)) Q E s:=by
 refine wpAny_updateSeq hT rfl (h _ ?_ (vz ..));rw[zf _ hT rfl];simp[Obj.mapSeq]
theorem af9{z TI TO i1 i2 i3 l1 l2 l3:Addr}{k:Nat}{xs ys us:YS}{x y u a b c:Value}{Q:Zu}(D:Zg2)
  (hz:Zhb) (dY:ZgM) (fJ:iu s.heap TO a b c)
  (h1:Zhd) (h2:Zti) (h3:Ztj) (cX:ZcN xs) (bH:ZhH) (b0:ZhI) (hx:xs[k]? =some x) (hy:ys[k]? =some y) (hu:us[k]? =some u)
  (hQ:∀h',Zpw->iu h' TO x y u->h'.IsListIter i1 l1 YE->h'.IsListIter i2 l2 YE->h'.IsListIter i3 l3 YE->Zsr->h'.objs.size=s.heap.objs.size+1->
   dy [z,TO,i1,i2,i3] s.heap h'->Q (.ref s.heap.objs.size) {s with heap:=h'}):
  wpAny Y5 A Zpc (λfin s'=>∃v,fin=.done (.ret v)/\Q v s') E s:=by
 have one:∀{a b:Addr},a≠b->a∉[b]:=λh q=>h (bo.mp q);have sub:∀{l a:Addr},l∉[z,TO,i1,i2,i3]->a∈[z,TO,i1,i2,i3]->l∉[a]:=λh m q=>ZsZ;have m0:z∈[z,TO,i1,i2,i3]:=by simp
 have m1:TO∈[z,TO,i1,i2,i3]:=by simp
 have m2:i1∈[z,TO,i1,i2,i3]:=by simp
 have m3:i2∈[z,TO,i1,i2,i3]:=by simp
 have m4:i3∈[z,TO,i1,i2,i3]:=by simp
 show Zsj;refine Zp7;show Zsk;refine Zo1;show ZoC;ext q;unfold Builtin.SmallTypes.ownedTupleIsFree;refine Zqm;simp only[iD];refine Zpl;refine Zr3;replace fF:IsZip g1 z TI TO .ellipsis :=fF;ext q;simp only[List.zipIdx_cons,List.zipIdx_nil,afD,O_];have k1:=dy.one s1;have T1:=k1 _ _ Zm3 fJ;refine Zim;show Zo0;refine aj (PX (k1.iter Zif h1) (k1.list (sub D.o1 m0) cX) hx λg2 j1 s2=>Yw);have k2:=dy.one s2;have T2:=k2 _ _ (one D.F_) T1;refine aj (sC T2 rfl (aj (HU T2 λg3 T3 s3=>aj (HE Yw))));replace T3:iu g3 TO x b c:=T3;have k3:=dy.one s3;refine Zim;show YI (Builtin.SmallTypes.nextOf (.ref i2)>>= _) _ _ _;refine aj (PX (k3.iter Zm1 (k2.iter (one D.i12.symm) (k1.iter Zm4 h2))) (k3.list (sub D.o2 m1) (k2.list (sub D.o2 m2) (k1.list (sub D.o2 m0) bH))) hy λg4 j2 s4=>Yw);have k4:=dy.one s4;have T4:=k4 _ _ (one D.F9) T3;refine aj (sC T4 rfl (aj (HU T4 λg5 T5 s5=>aj (HE Yw))));replace T5:iu g5 TO x y c:=T5;have k5:=dy.one s5;refine Zim;show YI (Builtin.SmallTypes.nextOf (.ref i3)>>= _) _ _ _;refine aj (PX (k5.iter Zm0 (k4.iter (one D.i23.symm) (k3.iter Zm0 (k2.iter (one D.i13.symm) (k1.iter Zm5 h3)))))
  (k5.list (sub D.o3 m1) (k4.list (sub D.o3 m3) (k3.list (sub D.o3 m1) (k2.list (sub D.o3 m2) (k1.list (sub D.o3 m0) b0))))) hu λg6 j3 s6=>aL ?_)
 have k6:=dy.one s6;have T6:=k6 _ _ (one D.F8) T5;refine aj (sC T6 rfl (aj (HU T6 λg7 T7 s7=>aj (HE (aL Yw)))));replace T7:iu g7 TO x y u:=T7;have k7:=dy.one s7;refine aj (sC T7 rfl (aj (wpAny_newTuple ?_)));have hsz:g7.objs.size=s.heap.objs.size:=by rw[s7.1,s6.1,s5.1,s4.1,s3.1,s2.1,s1.1]
 have Ll:IsZip g7 z TI TO .ellipsis :=k7 _ _ (one D.vH) (k6 _ _ (one D.z3) (k5 _ _ (one D.vH) (k4 _ _ (one D.z2) (k3 _ _ (one D.vH) (k2 _ _ (one D.z1) fF)))));have kk:dy [z,TO,i1,i2,i3] s.heap g7:=(((((((k1.app k2).app k3).app k4).app k5).app k6).app k7)).mono λa ha=>by simp only[b8,bo]at ha;rcases ha with(((((ha|ha)|ha)|ha)|ha)|ha)|ha<;>simp[ha]
 have J1:g7.IsListIter i1 l1 YE:=k7.iter Zm2 (k6.iter (one D.i13) (k5.iter Zm2 (k4.iter (one D.i12) (k3.iter Zm2 j1))));have J2:g7.IsListIter i2 l2 YE:=k7.iter Zm1 (k6.iter (one D.i23) (k5.iter Zm1 j2));have J3:g7.IsListIter i3 l3 YE:=k7.iter Zm0 j3;have cE:z<g7.objs.size:=bT Ll;show YI (Builtin.SmallTypes.ownedTupleHandOut Zdd (.ref g7.objs.size)>>= _) _ _ _;ext q;unfold Builtin.SmallTypes.ownedTupleHandOut;have hz8:IsZip (g7.push {cls:=Xz,data:=.seq #[x,y,u]}) z TI TO .ellipsis :=cV _ Ll;refine aj (Cw hz8 Zf λg9 Lk s9=>?_);replace Lk:IsZip g9 z TI TO (rawInt g7.objs.size):=Lk;refine Cw Lk Zf λBo xC tm=>?_;replace xC:IsZip Bo z TI TO (rawInt g7.objs.size):=xC;have k9:=dy.one s9;have k10:=dy.one tm;have up:dy [z] g7 Bo:=λc o hc e=>k10 c o hc (k9 c o hc XU);have hT:iu Bo g7.objs.size x y u:=k10 _ _ ZnW (k9 _ _ ZnW ZcY);have ach:Bo.objs.size=g7.objs.size+1:=by rw[tm.1,s9.1,gb]
 rw[hsz]at xC hT ach;refine aL Yy;show Q (.ref g7.objs.size) _;rw[hsz];exact hQ Bo xC (up _ _ Zm3 T7) (up.iter Zif J1) (up.iter Zm4 J2) (up.iter Zm5 J3) hT ach (λc o hc e=>up c o (λq=>hc (by rw[bo.mp q];exact m0)) (kk c o hc e))
theorem agb{z TI TO i1 i2 i3 l1 l2 l3:Addr}{k:Nat}{xs:YS}{a b c:Value}{Q:Fin->Shared->Prop}(hh:Vc)(D:Zg2)
  (hz:Zhb) (dY:ZgM) (h1:Zhd) (cX:ZcN xs) (hx:xs[k]? =none)
  (hE:∀h' e,dy [z,TO,i1,i2,i3] s.heap h'->(∃o,h'.get? e=some o/\o.cls=.type "StopIteration")->E (.ref e) {s with heap:=h'}):
  wpAny Y5 A Zpc Q E s:=by
 have one:∀{a b:Addr},a≠b->a∉[b]:=λh q=>h (bo.mp q);have sub:∀{l a:Addr},l∉[z,TO,i1,i2,i3]->a∈[z,TO,i1,i2,i3]->l∉[a]:=λh m q=>ZsZ;show Zsj;refine Zp7;show Zsk;refine Zo1;show ZoC;refine aj ?_;unfold Builtin.SmallTypes.ownedTupleIsFree;refine Zqm;simp only[iD];refine Zpl;refine Zr3;replace fF:IsZip g1 z TI TO .ellipsis :=fF;refine aj ?_;simp only[List.zipIdx_cons,List.zipIdx_nil,afD,O_];have k1:=dy.one s1;refine Zim;show Zo0;refine aj (wpAny_nextOf_list_end hh (k1.iter Zif h1) (k1.list (sub D.o1 Zf) cX) hx λg2 e s2 he=>?_);obtain⟨oe,LH,gG⟩:=he;have k2:=dy.ext s2;have ma:IsZip g2 z TI TO .ellipsis :=k2 _ _ (one D.z1) fF;have hez:e≠z:=λq=>by subst q;rw[ma]at LH;cases LH;simp at gG
 refine Cw ma Zf λg3 _ s3=>hE g3 e (((k1.app k2).app (dy.one s3)).mono λa ha=>?_) ⟨oe,dy.one s3 _ _ (one hez) LH,gG⟩;simp only[b8,bo]at ha;rcases ha with(ha|ha)|ha<;>simp[ha]
theorem akJ{z TI TO i1 i2 i3 l1 l2 l3:Addr}{k:Nat}{xs ys us:YS}{x y u a b c:Value}{Q:ZcD}(D:Zg2)
  (hz:Zhb) (dY:ZgM) (fJ:iu s.heap TO a b c)
  (h1:Zhd) (h2:Zti) (h3:Ztj) (cX:ZcN xs) (bH:ZhH) (b0:ZhI) (hx:xs[k]? =some x) (hy:ys[k]? =some y) (hu:us[k]? =some u)
  (hQ:∀h',Zpw->iu h' TO x y u->h'.IsListIter i1 l1 YE->h'.IsListIter i2 l2 YE->h'.IsListIter i3 l3 YE->Zsr->h'.objs.size=s.heap.objs.size+1->
   dy [z,TO,i1,i2,i3] s.heap h'->Q (some (.ref s.heap.objs.size)) {s with heap:=h'}):wpAny (model prog w) A (pyNext (.ref z)) Q E s:=by
 ext cn;exact aj (zl (Zeb hT Pp (mI Pp hT F.entry_zip_next
  (af9 D hz dY fJ h1 h2 h3 cX bH b0 hx hy hu λh' a1 a2 a3 a4 a5 a6 a7 a8=>aL (hQ h' a1 a2 a3 a4 a5 a6 a7 a8)) (F.args_zip_next_1 _))))
theorem akI{z TI TO i1 i2 i3 l1 l2 l3:Addr}{k:Nat}{xs:YS}{a b c:Value}{Q:ZcD}(hh:Vc)(D:Zg2)
  (hz:Zhb) (dY:ZgM) (h1:Zhd) (cX:ZcN xs) (hx:xs[k]? =none)
  (hQ:∀h',dy [z,TO,i1,i2,i3] s.heap h'->Q none {s with heap:=h'}):YF (pyNext Zdd) Q E s:=by
 ext cn;refine aj (zl (Zeb hT Pp (mI Pp hT F.entry_zip_next
  (agb (a:=a) (b:=b) (c:=c) hh D hz dY h1 cX hx λh' e hk ⟨o,ho,hc⟩=>aj (HF (T:="StopIteration") (b:=true) ⟨o,ho,hc⟩ ab3 (aL (hQ _ hk)))) (F.args_zip_next_1 _))))
end
abbrev fD(h:Heap)(l1:Addr):Heap:=h.push {cls:=.type "list_iterator",data:=.fields #[.ref l1,.int 0 0]}
abbrev Cu(h:Heap)(l1 l2 l3:Addr):Heap:=(fD (fD (fD h l1) l2) l3).push {cls:=Xz,data:=.seq #[.ref h.objs.size,.ref (fD h l1).objs.size,.ref (fD (fD h l1) l2).objs.size]}
abbrev Ct(h:Heap)(l1 l2 l3:Addr):Heap:=(Cu h l1 l2 l3).push {cls:=Xz,data:=.seq #[.none,.none,.none]}
abbrev qz(h:Heap)(l1 l2 l3:Addr):Heap:=(Ct h l1 l2 l3).push {cls:=.type "zip",data:=.fields #[.none,.bool false,.bool false,.ref (fD (fD (fD h l1) l2) l3).objs.size,.ref (Cu h l1 l2 l3).objs.size]}
theorem af8(l1 l2 l3:Addr)(xs ys us:YS):
  Meets (Builtin.«zip.__new__» ⟨[.type "zip",.ref l1,.ref l2,.ref l3],[]⟩) (λ_ R s=>ZcN xs/\ZhH/\ZhI/\R (.ok (.ret (.ref (Zne l3).objs.size))) {s with heap:=qz s.heap l1 l2 l3}):=
 .of_wp λprog w A R s h=>by
  ext bk;obtain⟨cX,bH,b0,h⟩:=h;have gj:=sub_zip;have yf:Zpj l1 xs:=cX;have ye:Heap.IsList (Shared.heap ⟨fD hp l1,g,d,tk,os⟩) l2 ys:=afS bH _;have hL3:Heap.IsList (Shared.heap ⟨fD (fD hp l1) l2,g,d,tk,os⟩) l3 us:=afS (afS b0 _) _
  wp_walk using qB yf,qB ye,qB hL3
  exact Zda
theorem aq8{prog:Program}{w:World}{A:Around}{E:Zu}{s:Shared}{l1 l2 l3:Addr}{xs ys us:YS}{Q:Zu}(cX:ZcN xs)(bH:ZhH)(b0:ZhI)
  (h:∀h',IsZip h' (s.heap.objs.size+5) (s.heap.objs.size+3) (s.heap.objs.size+4) .none ->iu h' (s.heap.objs.size+3) Ys Zjo (.ref (s.heap.objs.size+2))->
   iu h' (s.heap.objs.size+4) .none .none .none ->ZrP l1 0->h'.IsListIter YW l2 0->h'.IsListIter (s.heap.objs.size+2) l3 0->h'.objs.size=s.heap.objs.size+6->
   (∀c o,s.heap.get? c=some o->h'.get? c=some o)->Q (.ref (s.heap.objs.size+5)) {s with heap:=h'}):wpAny (model prog w) A (call (.type "zip") [.ref l1,.ref l2,.ref l3]) Q E s:=by
 refine callType_new F.called_zip Zj (af6 _ _ _) (af7 _ _ _) (λobj=>aga obj _ _ _) F.entry_zip_new (af8 l1 l2 l3 xs ys us) ⟨cX,bH,b0,?_⟩;have z1:(fD s.heap l1).objs.size =s.heap.objs.size+1:=gb ..;have z2:(ZhV l2).objs.size =s.heap.objs.size+2:=by rw[gb,z1]
 have z3:(fD (ZhV l2) l3).objs.size =s.heap.objs.size+3:=by rw[gb,z2]
 have z4:(Cu s.heap l1 l2 l3).objs.size =s.heap.objs.size+4:=by rw[gb,z3]
 have z5:(Zne l3).objs.size =s.heap.objs.size+5:=by rw[gb,z4]
 have z6:(Zbv l3).objs.size =s.heap.objs.size+6:=by rw[gb,z5]
 have p1:=λ{h:Heap} {c:Addr} {o o':Obj} (e:h.get? c=some o)=>cV o' e;have g6:(Zbv l3).get? (Zne l3).objs.size =some _:=dj _ rfl;have g5:(Zbv l3).get? (Cu s.heap l1 l2 l3).objs.size =some _:=p1 ZcY;have g4:(Zbv l3).get? (fD (ZhV l2) l3).objs.size =some _:=p1 (p1 ZcY);have g3:(Zbv l3).get? (ZhV l2).objs.size =some _:=Zml;have g2:(Zbv l3).get? (fD s.heap l1).objs.size =some _:=p1 Zml;have g1:(Zbv l3).get? s.heap.objs.size=some _:=p1 (p1 Zml);show _/\_;rw[z3,z4,z5]at g6;rw[z1,z2,z3]at g4;rw[z4]at g5;rw[z2]at g3;rw[z1]at g2;rw[z5];exact⟨⟨_,g6,rfl⟩,h _ g6 g4 g5 ⟨_,g1,rfl,rfl⟩ ⟨_,g2,rfl,rfl⟩ ⟨_,g3,rfl,rfl⟩ z6 λc o x=>p1 (p1 (p1 (p1 (p1 (p1 x)))))⟩
end
section
open Vbwbal (Plan Bytes Choice signer load goesWith)
theorem C9(s:Nat):signer [] s=none:=rfl
theorem iV(y:Xr)(r:Choice)(s:Nat):signer (y::r) s=if y.1=s then some y.2 else signer r s:=by
 unfold signer;rw[oR];by_cases h:y.1=s
 ·rw[af h];have:(y.1==s)=true:=by simp[h]
  rw[this];rfl
 ·rw[ae h];have:(y.1==s)=false:=by simp[h]
  rw[this]
theorem nS:∀{c:Choice} {s x:Nat},ZS s=some x->(s,x)∈c
 |[],s,x,h=>by rw[C9]at h;cases h
 |y::r,s,x,h=>by
  rw[iV]at h;ext W
  ·rw[af e]at h;have:y=(s,x):=by rw[←e,←bY h]
   rw[this];exact aY
  ·rw[ae e]at h;exact ZD (nS h)
theorem zM:∀{c:Choice} {s:Nat},ZS s=none↔s∉c.map Zh
 |[],s=>by simp[C9]
 |y::r,s=>by
  rw[iV,cw,aJ];ext W
  ·rw[af e];exact⟨λh=>Vf,λh=>absurd (Or.inl e.symm) h⟩
  ·rw[ae e,zM];exact⟨λh q=>q.elim (λz=>e z.symm) h,λh q=>h (Or.inr q)⟩
theorem wA:∀{c:Choice} {s x:Nat},(c.map Zh).Nodup ->(s,x)∈c->ZS s=some x
 |y::r,s,x,hn,h=>by
  ext t;rw[iV];rcases aJ.mp h with e|e
  ·rw[←e,af rfl]
  ·have:¬y.1=s:=λq=>h1 (by show y.1∈_;rw[q];exact aO.mpr Zc0);rw[ae this];exact wA h2 e
theorem tX(y:Xr)(r:Choice)(x:Nat):load (y::r) x=(if y.2=x then 1 else 0)+load r x:=by
 unfold load;rw[jf];by_cases h:y.2=x
 ·have:(y.2==x)=true:=by simp[h]
  rw[af this,af h,bb];omega
 ·have:¬(y.2==x)=true:=by simp[h]
  rw[ae this,ae h];omega
theorem adY(p:ZbP)(q:ZbP)(a:Nat)(h:∀s,s≠a->p s=q s)(hq:q a=false):∀n,(List.range n).countP p=(if p a=true/\a<n then 1 else 0)+(List.range n).countP q
 |0=>by simp
 |n+1=>by
  rw[Cg,Cq,Cq,adY p q a h hq n];by_cases e:n=a
  ·subst e;rw[Pd,Pd,hq];simp;omega
  ·rw[Pd,Pd,h n e];have:(a<n+1)↔(a<n):=by omega
   simp only[this];omega
theorem abd:∀(c:Choice) (x n:Nat),(c.map Zh).Nodup ->(∀y∈c,y.1<n)->(List.range n).countP (λs=>ZS s==some x)=YA x
 |[],x,n,_,_=>by
  have:(λs=>signer [] s==some x)=λ_=>false:=by funext s;rfl
  rw[this];show List.countP (λ_=>false) _=0;rw[List.countP_false];rfl
 |y::r,x,n,hn,hl=>by
  ext t;have ih:=abd r x n h2 λz hz=>hl z Zgv;rw[adY (λs=>signer (y::r) s==some x) (λs=>signer r s==some x) y.1 (λs hs=>by
   show(signer (y::r) s==some x)=_;rw[iV,ae (λq=>hs q.symm)]) (by
   show(signer r y.1==some x)=false;rw[zM.mpr h1];rfl) n,ih,tX]
  congr 1;have bG:=hl y aY;have e:(signer (y::r) y.1==some x)=decide (y.2=x):=by
   rw[iV,af rfl];by_cases h:y.2=x
   ·simp[h]
   ·simp[h]
  simp only[e,bX,bG,yK]
def bw(ps:ZX)(s:Nat):Za:=ps.flatMap λp=>(if p.1=s then [p.2]else [])++(if p.2=s then [p.1]else [])
theorem gC{ps:ZX}{s t:Nat}:t∈bw ps s↔(s,t)∈ps∨(t,s)∈ps:=by
 unfold bw;rw[vo];ext b
 ·rintro⟨p,hp,h⟩;rcases b8.mp h with h|h
  ·by_cases e:p.1=s
   ·rw[af e,bo]at h;left;rw[h,←e];exact hp
   ·rw[ae e]at h;cases h
  ·by_cases e:p.2=s
   ·rw[af e,bo]at h;right;rw[h,←e];exact hp
   ·rw[ae e]at h;cases h
 ·rintro(h|h)
  ·exact⟨_,h,my _ Zf⟩
  ·exact⟨_,h,je _ Zf⟩
def kj(ps:ZX)(c:Choice)(s:Nat):Za:=(bw ps s).filterMap ZS
theorem xr{ps:ZX}{c:Choice}{s x:Nat}:x∈kj ps c s↔∃t,((s,t)∈ps∨(t,s)∈ps)/\ZS t=some x:=by
 unfold kj;rw[G9];ext b
 ·rintro⟨t,h,e⟩;exact⟨t,gC.mp h,e⟩
 ·rintro⟨t,h,e⟩;exact⟨t,gC.mpr h,e⟩
theorem nq(P:Plan)(c:Choice)(s x:Nat):YT x=true↔
  (x∉kj P.unlike c s)/\(∀y∈Zc9 s,y=x)/\YA x<((P.persons[x]?).map λy=>y.most).getD 0:=by
 unfold goesWith;rw[aQ,aQ,dh,dh,bX];refine F6 ?_ (F6 ?_ di)
 ·rw[xr];ext b
  ·rintro h ⟨t,ht,e⟩;rcases ht with ht|ht
   ·ext au
   ·ext au
  ·intro h y hy;rw[aQ,vF,vF,zi,zi];ext b
   ·ext W
    ·right;by_cases e2:ZS y.2=some x
     ·exact absurd ZpE h
     ·simpa using e2
    ·left;simpa using e
   ·by_cases e:y.2=s
    ·right;by_cases e2:ZS y.1=some x
     ·exact absurd ZpD h
     ·simpa using e2
    ·left;simpa using e
 ·ext b
  ·intro h z hz;obtain⟨t,ht,e⟩:=xr.mp hz;rcases ht with ht|ht
   ·ext au;exact this.1
   ·ext au;exact this.2
  ·intro h y hy;rw[aQ,vF,vF,zi,zi];ext b
   ·ext W
    ·right;cases e2:ZS y.2 with
     |none=>rfl
     |some z=>
      have:=h z (xr.mpr ZpE);simp[this]
    ·left;simpa using e
   ·by_cases e:y.2=s
    ·right;cases e2:ZS y.1 with
     |none=>rfl
     |some z=>
      have:=h z (xr.mpr ZpD);simp[this]
    ·left;simpa using e
end
section
open Vbwbal (Plan Bytes Choice signer load goesWith fits unsigned complete canEnd completion)
abbrev cz:=List Zay
def cy(P:Plan)(x:Nat):Nat:=((P.persons[x]?).map λy=>y.most).getD 0
def bR(P:Plan)(ab:Za)(c:Choice)(s:Nat):Za:=(List.range P.persons.length).filter λx=>YG x&&YT x
def c_(P:Plan)(ab:Za)(c:Choice):cz:=(Z9 c).map λs=>(s,ZJ s)
def kK(o:cz)(s x:Nat):cz:=o.map λp=>if p.1=s then(s,[x])else p
def fE(o:cz)(s:Nat):Za:=((o.find? λp=>p.1==s).map ZZ).getD []
def ko(o:cz)(ss:Za):cz:=ss.map λs=>(s,fE o s)
def jO(o:cz)(xs:Za):cz:=o.map λp=>Zp4
theorem lY(P:Plan)(c:Choice):(Z9 c).Nodup :=by unfold unsigned;exact(aft).filter _
theorem Es(P:Plan)(c:Choice):(Z9 c).length <=P.steps.length:=by unfold unsigned;exact Zbe
theorem xp{P:Plan}{c:Choice}{s:Nat}:s∈Z9 c↔s<P.steps.length/\ZS s=none:=by unfold unsigned;rw[bD,dS,Option.isNone_iff_eq_none]
theorem Nr{P:Plan}{ab:Za}{s x:Nat}(h:YG x=true):ab.contains x=false:=by
 unfold fits at h;split at h
 ·rw[aQ,vF]at h;exact h.1
 ·cases h
def keys(o:cz):Za:=o.map Zh
structure Fills(P:Plan)(o:cz)(rooms:Y0)(g:UN):Prop where
 opt:∀p∈o,g p.1∈p.2
 unlike:∀s t,(s,t)∈P.unlike->s∈keys o->t∈keys o->g s≠g t
 alike:∀s t,(s,t)∈P.alike->s∈keys o->t∈keys o->g s=g t
 room:∀x,(((keys o).countP λs=>g s==x:Nat):Int)<=rooms x
def Sat(P:Plan)(o:cz)(rooms:Y0):Prop:=∃g,Fills P o rooms g
def pI(P:Plan)(step x:Nat)(full:Bool)(t:Nat)(l:Za):Za:=
 let l1:=if(Xy step).contains t=true then l.filter (λy=>y==x)else l
 if((Y8 step).contains t||full)=true then l1.filter Zc3 else l1
def behind(P:Plan)(o:cz)(step x:Nat)(full:Bool):cz:=(o.filter λp=>p.1 != step).map λp=>(p.1,ZfJ full p.1 p.2)
theorem tV{P:Plan}{step x:Nat}{full:Bool}{t y:Nat}{l:Za}:y∈ZfJ full t l↔
  y∈l/\(t∈Xy step->y=x)/\(t∈Y8 step∨full=true->y≠x):=by
 unfold pI;by_cases h1:t∈Xy step
 ·ext cR;ext ag
  ·have e2:((Y8 step).contains t||full)=true:=by rw[h_];exact Zhc
   simp only[e1,e2,iD,bD,h1,h2,zu,oK,u7,ne_eq];exact and_assoc
  ·have e2:((Y8 step).contains t||full)=false:=by
    rw[PF];exact⟨by
     cases e:(Y8 step).contains t with
     |false=>rfl
     |true=>exact Zg1,by
     cases e:full with
     |false=>rfl
     |true=>exact absurd (Or.inr e) h2⟩
   simp only[e1,e2,iD,bD,h1,h2,zu,oK,kg,i5,Bt,yK]
 ·have e1:(Xy step).contains t=false:=by
   cases e:(Xy step).contains t with
   |false=>rfl
   |true=>exact ZmY h1
  ext ag
  ·have e2:((Y8 step).contains t||full)=true:=by rw[h_];exact Zhc
   simp only[e1,e2,iD,bD,h1,h2,zu,u7,ne_eq,kg,i5,Bt,true_and]
  ·have e2:((Y8 step).contains t||full)=false:=by
    rw[PF];exact⟨by
     cases e:(Y8 step).contains t with
     |false=>rfl
     |true=>exact Zg1,by
     cases e:full with
     |false=>rfl
     |true=>exact absurd (Or.inr e) h2⟩
   simp only[e1,e2,h1,h2,kg,i5,Bt,yK]
theorem AG(P:Plan)(o:cz)(step x:Nat)(full:Bool):keys (Zk0 full)=(keys o).filter λs=>s != step:=by unfold keys behind;rw[bz,vt];rfl
def less(rooms:Y0)(x:Nat):Nat->Int:=λy=>if y=x then rooms y-1 else rooms y
theorem count_filter{l:Za}{step:Nat}(hn:l.Nodup)(hm:step∈l)(p:ZbP):l.countP p=(if p step=true then 1 else 0)+(l.filter λs=>s != step).countP p:=by
 induction l with
 |nil=>cases hm
 |cons a r ih=>
  ext t;rw[Pe,jf];by_cases e:a=step
  ·subst e;have e2:∀l':List Nat,a∉l'->l'.filter (λs=>s != a)=l':=λl' h=>Pc.mpr λs hs=>by rw[u7];exact λq=>h (q▸hs)
   have e3:¬(a != a)=true:=by simp
   rw[ae e3,e2 r h1];omega
  ·have kH:step∈r:=(aJ.mp hm).resolve_left λq=>Uz;have e3:(a != step)=true:=by simpa using e
   rw[af e3,Pe,ih h2 kH];omega
theorem sat_empty(P:Plan)(rooms:Y0)(h:Zm8):Sat P [] rooms:=
 ⟨λ_=>0,⟨λp hp=>(by cases hp),λs t _ hs _=>(by cases hs),λs t _ hs _=>(by cases hs),λx=>(by simpa[keys]using h x)⟩⟩
theorem To(P:Plan)(o:cz)(rooms:Y0)(hn:Ze8)(aK:Zbc){step:Nat}{l:Za}(hs:(step,l)∈o)(hr:∀x∈l,0<rooms x)(h0:Zm8):
  Sat P o rooms↔∃x∈l,W6 ZrJ (less rooms x):=by
 have hk:step∈keys o:=aO.mpr ⟨_,hs,rfl⟩;ext b
 ·rintro⟨g,hg⟩;refine⟨g step,hg.opt _ hs,g,?_⟩;have xZ:∀x,(keys o).countP (λs=>g s==x)=(if(g step==x)=true then 1 else 0)+((keys o).filter λs=>s != step).countP (λs=>g s==x):=λx=>count_filter hn hk _;refine⟨λp hp=>?_,λs t h1 h2 h3=>?_,λs t h1 h2 h3=>?_,λx=>?_⟩
  ·ext as;obtain⟨i7,m7⟩:=bD.mp hq;have hq3:q.1≠step:=by simpa using m7
   have AU:q.1∈keys o:=aO.mpr ⟨_,i7,rfl⟩;refine tV.mpr ⟨hg.opt q i7,λh=>?_,λh=>?_⟩
   ·rcases gC.mp h with h|h
    ·exact(hg.alike _ _ h hk AU).symm
    ·exact hg.alike _ _ h AU hk
   ·rcases h with h|h
    ·rcases gC.mp h with h|h
     ·exact λe=>hg.unlike _ _ h hk AU e.symm
     ·exact hg.unlike _ _ h AU hk
    ·intro e;have hf:rooms (g step)-1=0:=lX h;have h5:=hg.room (g step);rw[xZ,af Zf]at h5;have h6:0<((keys o).filter λs=>s != step).countP (λs=>g s==g step):=
      List.countP_pos_iff.mpr ⟨q.1,bD.mpr ⟨AU,m7⟩,Zdb⟩
     omega
  ·rw[AG]at h2 h3;exact hg.unlike s t h1 (bD.mp h2).1 (bD.mp h3).1
  ·rw[AG]at h2 h3;exact Uy h1 (bD.mp h2).1 (bD.mp h3).1
  ·rw[AG];have h5:=hg.room x;rw[xZ]at h5;unfold less;by_cases e:x=g step
   ·ext x;rw[af Zf]at h5;omega
   ·rw[ae e];rw[ae ZsC]at h5;omega
 ·rintro⟨x,hx,g,hg⟩;refine⟨λs=>if s=step then x else g s,?_⟩;have kb:∀s,s∈keys o->s≠step->s∈keys ZrJ:=λs hs aK=>by rw[AG];exact bD.mpr ⟨hs,by simpa using aK⟩
  have inl:∀p,p∈o->p.1≠step->g p.1∈ZfJ (decide (rooms x-1=0)) p.1 p.2:=λp hp aK=>hg.opt (p.1,ZfJ _ p.1 p.2) (aO.mpr ⟨p,bD.mpr ⟨hp,by simpa using aK⟩,rfl⟩);have alP:∀(l1:List Zay) (p q:Zay),(l1.map Zh).Nodup ->p∈l1->q∈l1->p.1=q.1->p=q:=by
   intro l1
   induction l1 with
   |nil=>intro p q _ hp;cases hp
   |cons a r ih=>
    intro p q hn hp hq e;ext t;rcases aJ.mp hp with e1|E4
    ·rcases aJ.mp hq with e2|cF
     ·rw[e1,e2]
     ·exact absurd (show a.1∈r.map Zh from aO.mpr ⟨q,cF,by rw[←e,e1]⟩) h1
    ·rcases aJ.mp hq with e2|cF
     ·exact absurd (show a.1∈r.map Zh from aO.mpr ⟨p,E4,by rw[e,e2]⟩) h1
     ·exact ih p q h2 E4 cF e
  refine ZoJ
  ·show(if p.1=step then x else g p.1)∈p.2;by_cases e:p.1=step
   ·rw[af e,alP o p (step,l) hn hp hs e];exact hx
   ·rw[ae e];exact(tV.mp (inl p hp e)).1
  ·show(if s=step then x else g s)≠(if t=step then x else g t);ext b1
   ·have et:t≠step:=λq=>aK (s,t) (.inl h1) (es.trans q.symm);rw[af es,ae et];have:=(tV.mp ZqX).2.2 (.inl (by rw[oF];exact Zqn));rw[oF]at this;exact λq=>this q.symm
   ·rw[ae es];by_cases et:t=step
    ·rw[af et];have:=(tV.mp ZqW).2.2 (.inl (by rw[kL];exact Zqo));rw[kL]at this;ext d
    ·rw[ae et];exact ZcM (kb s h2 es) (kb t h3 et)
  ·show(if s=step then x else g s)=(if t=step then x else g t);ext b1
   ·have et:t≠step:=λq=>aK (s,t) (.inr h1) (es.trans q.symm);rw[af es,ae et];have:=(tV.mp ZqX).2.1 (by rw[oF];exact Zqn);rw[oF]at this;exact this.symm
   ·rw[ae es];by_cases et:t=step
    ·rw[af et];have:=(tV.mp ZqW).2.1 (by rw[kL];exact Zqo);rw[kL]at this;ext d
    ·rw[ae et];exact Uy h1 (kb s h2 es) (kb t h3 et)
  ·have h5:=hg.room y;rw[AG]at h5;rw[count_filter hn hk];have e1:((keys o).filter λs=>s != step).countP (λs=>(if s=step then x else g s)==y)=((keys o).filter λs=>s != step).countP ZcX:=by
    refine List.countP_congr λs hs=>?_;have:s≠step:=by simpa using(bD.mp hs).2
    rw[ae this]
   rw[e1,af rfl];unfold less at h5;ext u
   ·subst e;rw[af rfl]at h5;rw[af Zf];omega
   ·rw[ae e]at h5;rw[ae ZsC];omega
theorem avA{P:Plan}{o:cz}{rooms:Y0}{step x:Nat}(hr:∀p∈o,∀y∈p.2,0<rooms y)(hx:0<rooms x):∀p∈Zk0 (decide (rooms x-1=0)),∀y∈p.2,0<less rooms x y:=by
 intro p hp y hy;ext as;obtain⟨i7,_⟩:=bD.mp hq;obtain⟨h1,h2,h3⟩:=tV.mp hy;have h4:=hr q i7 y h1;unfold less;ext u
 ·ext x;by_cases hf:rooms y-1=0
  ·exact absurd rfl (h3 (.inr (bu hf)))
  ·omega
 ·rw[ae e];exact h4
theorem atV{rooms:Y0}{x:Nat}(h:∀y,0<=rooms y)(hx:0<rooms x):∀y,0<=less rooms x y:=λy=>by
 unfold less;ext u
 ·ext x;omega
 ·rw[ae e];exact h y
def eD(P:Plan)(c:Choice):Nat->Int:=λx=>(cy P x:Int)-(load c x:Int)
theorem nR{c:Choice}{s x t:Nat}(h:ZbQ):signer Ym t=if t=s then some x else ZS t:=by
 induction c with
 |nil=>
  rw[mx,iV,C9];by_cases e:t=s
  ·rw[af e,af e.symm]
  ·rw[ae e,ae ZfO]
 |cons y r ih=>
  rw[iV]at h;by_cases e0:y.1=s
  ·rw[af e0]at h;cases h
  ·rw[ae e0]at h;rw[oS,iV,iV,ih h];by_cases e1:y.1=t
   ·rw[af e1,af e1];have:¬t=s:=λq=>e0 (e1.trans q);rw[ae this]
   ·rw[ae e1,ae e1]
theorem rh(c:Choice)(s x y:Nat):load Ym y=YA y+(if x=y then 1 else 0):=by
 induction c with
 |nil=>
  rw[mx,tX];show(if x=y then 1 else 0)+0=0+(if x=y then 1 else 0);omega
 |cons a r ih=>
  rw[oS,tX,tX,ih];omega
theorem JV(P:Plan)(c:Choice)(s x:Nat):eD P Ym=less Xk x:=by
 funext y;show(cy P y:Int)-(load Ym y:Int)=if y=x then((cy P y:Int)-(load c y:Int))-1 else(cy P y:Int)-(load c y:Int)
 rw[rh];ext u
 ·subst e;rw[af rfl,af rfl];omega
 ·rw[ae ZfO,ae e];omega
theorem agx(P:Plan)(c:Choice)(s x:Nat)(h:ZbQ):Z9 Ym=(Z9 c).filter λt=>t != s:=by
 unfold unsigned;rw[qt];refine nD λt _=>?_;rw[nR h];by_cases e:t=s
 ·rw[af e];simp[e]
 ·rw[ae e];simp[e]
theorem xa{ps:ZX}{c:Choice}{s x t y:Nat}(h:ZbQ)(ht:t≠s):y∈kj ps Ym t↔y∈kj ps c t∨(t∈bw ps s/\y=x):=by
 rw[xr,xr,gC];ext b
 ·rintro⟨u,hu,e⟩;rw[nR h]at e;by_cases eu:u=s
  ·rw[af eu]at e;refine .inr ⟨?_,(bY e).symm⟩;rw[eu]at hu;exact hu.symm
  ·rw[ae eu]at e;exact .inl ⟨u,hu,e⟩
 ·rintro(⟨u,hu,e⟩|⟨hu,e⟩)
  ·refine⟨u,hu,?_⟩;rw[nR h];have:¬u=s:=λq=>by rw[q,h]at e;cases e
   rw[ae this];exact e
  ·refine⟨s,hu.symm,?_⟩;rw[nR h,af rfl,e]
theorem Fy{P:Plan}{c:Choice}{s x t y:Nat}(h:ZbQ)(ht:t≠s)(hx:Zi0):W8 Ym t y=true↔
  goesWith P c t y=true/\(t∈Xy s->y=x)/\(t∈Y8 s∨Xk x-1=0->y≠x):=by
 rw[nq,nq];have hl:=rh c s x y;have hm:((P.persons[y]?).map λz=>z.most).getD 0=YH y:=rfl;rw[hm,hl];unfold eD;ext b
 ·rintro⟨h1,h2,h3⟩;refine⟨⟨λq=>h1 ((xa h ht).mpr X9),λz hz=>h2 z ((xa h ht).mpr (.inl hz)),?_⟩,λq=>?_,λq e=>?_⟩
  ·split at h3<;>omega
  ·exact(h2 x ((xa h ht).mpr (.inr Zjn))).symm
  ·rcases q with q|q
   ·exact h1 ((xa h ht).mpr (.inr ⟨q,e⟩))
   ·subst e;rw[af rfl]at h3;omega
 ·rintro⟨⟨h1,h2,h3⟩,h4,h5⟩;refine⟨λq=>?_,λz hz=>?_,?_⟩
  ·rcases(xa h ht).mp q with q|⟨q,e⟩
   ·exact h1 q
   ·exact h5 X9 e
  ·rcases(xa h ht).mp hz with q|⟨q,e⟩
   ·exact h2 z q
   ·rw[e];exact(h4 q).symm
  ·by_cases e:x=y
   ·ext x;have:¬((cy P x:Int)-(load c x:Int)-1=0):=λq=>h5 (.inr q) rfl;omega
   ·rw[ae e];omega
theorem alA(P:Plan)(step x:Nat)(full:Bool)(t:Nat)(l:Za):ZfJ full t l=l.filter λy=>decide ((t∈Xy step->y=x)/\(t∈Y8 step∨full=true->y≠x)):=by
 unfold pI;by_cases h1:t∈Xy step
 ·ext cR;ext ag
  ·have e2:((Y8 step).contains t||full)=true:=by rw[h_];exact Zhc
   simp only[e1,e2,iD,qt,h1,h2,zu];refine nD λy _=>?_;by_cases e:y=x<;>simp[e]
  ·have e2:((Y8 step).contains t||full)=false:=by
    rw[PF];exact⟨by
     cases e:(Y8 step).contains t with
     |false=>rfl
     |true=>exact Zg1,by
     cases e:full with
     |false=>rfl
     |true=>exact absurd (Or.inr e) h2⟩
   simp only[e1,e2,iD,kg,i5,h1,h2,zu,Bt,yK];refine nD λy _=>?_;by_cases e:y=x<;>simp[e]
 ·have e1:(Xy step).contains t=false:=by
   cases e:(Xy step).contains t with
   |false=>rfl
   |true=>exact ZmY h1
  ext ag
  ·have e2:((Y8 step).contains t||full)=true:=by rw[h_];exact Zhc
   simp only[e1,e2,iD,kg,i5,h1,h2,zu,Bt,true_and];refine nD λy _=>?_;by_cases e:y=x<;>simp[e]
  ·have e2:((Y8 step).contains t||full)=false:=by
    rw[PF];exact⟨by
     cases e:(Y8 step).contains t with
     |false=>rfl
     |true=>exact Zg1,by
     cases e:full with
     |false=>rfl
     |true=>exact absurd (Or.inr e) h2⟩
   simp only[e1,e2,kg,i5,h1,h2,Bt,yK,decide_true];exact(Pc.mpr λ_ _=>rfl).symm
def fq(P:Plan)(ab:Za)(q:VF)(l:Za)(c:Choice):cz:=l.map λt=>(t,(ZJ t).filter (q t))
theorem t_(P:Plan)(ab:Za)(q:VF)(l:Za)(c:Choice):keys Zi6=l:=by unfold keys fq;rw[bz];exact Zgt
theorem aek{P:Plan}{ab:Za}{q:VF}{l:Za}{c:Choice}{s x:Nat}(h:ZbQ)(hx:Zi0):
  behind P Zi6 s x (decide (Xk x-1=0))=Wb q (l.filter λt=>t != s) Ym:=by
 unfold behind fq;rw[vt,bz];refine gv λt ht=>?_;have AM:t≠s:=by simpa using(bD.mp ht).2
 show(t,pI P s x _ t ((ZJ t).filter (q t)))=(t,(bR P ab Ym t).filter (q t));rw[alA];unfold bR;rw[qt,qt,qt];congr 1;refine nD λy _=>?_;have hg:=Fy (P:=P) (y:=y) h AM hx;rw[iS];simp only[aQ,bX];rw[hg];constructor
 ·rintro⟨⟨r,b⟩,f1,g1⟩;exact⟨b,f1,g1,r⟩
 ·rintro⟨b,f1,g1,r⟩;exact⟨⟨r,b⟩,f1,g1⟩
def fk(P:Plan)(ab:Za)(q:VF):Za->Choice->Option Choice
 |[],c=>some c
 |s::r,c=>(List.range P.persons.length).findSome? λx=>if(YG x&&YT x&&q s x)=true then Ww q r Ym else none
theorem yG(P:Plan)(ab:Za):∀(l:Za) (c:Choice),Ww Zbp l c=YZ l c
 |[],c=>rfl
 |s::r,c=>by unfold fk complete;congr 1;funext x;rw[vG,yG P ab r]
theorem sZ(P:Plan)(ab:Za)(q:VF)(aK:Zbc):∀(l:Za) (c:Choice),l.Nodup->(∀s∈l,ZS s=none)->(∀x,YA x<=YH x)->
  (W6 Zi6 Xk↔(Ww q l c).isSome =true)
 |[],c,_,_,hr=>by refine⟨λ_=>rfl,λ_=>sat_empty P _ λx=>?_⟩;have:=hr x;unfold eD;omega
 |s::r,c,hn,hs,hr=>by
  obtain⟨kG,fH⟩:=Zb9;have fX:=hs s aY;have Lv:∀(x:Nat),YT x=true->YA x<YH x:=λx hx=>((ZdP x).mp hx).2.2;have h0:∀x,0<=Xk x:=λx=>by have:=hr x;unfold eD;omega
  have hm:(s,(ZJ s).filter (q s))∈Wb q Za5 c:=aO.mpr ⟨s,aY,rfl⟩;have jy:∀x,x∈(ZJ s).filter (q s)↔x<P.persons.length/\(YG x&&YT x&&q s x)=true:=λx=>by unfold bR;rw[bD,bD,dS,aQ (YG x&&YT x),and_assoc]
  have ju:∀x∈(ZJ s).filter (q s),YA x<YH x:=λx hx=>by have:=((jy x).mp hx).2;rw[aQ,aQ]at this;exact Lv x this.1.2
  rw[To P _ _ (by rw[t_];exact hn) aK hm (λx hx=>by have:=ju x hx;unfold eD;omega) h0]
  have anr:(s::r).filter (λt=>t != s)=r:=by rw[jf,ae Zf];exact Pc.mpr λt ht=>by rw[u7];exact λe=>kG (e▸ht)
  have key:∀x,x∈(ZJ s).filter (q s)->(W6 (behind P (Wb q Za5 c) s x (decide (Xk x-1=0))) (less Xk x)↔(Ww q r Ym).isSome =true):=λx hx=>by
   have kx:=ju x hx;rw[aek fX kx,anr,←JV P c s x];refine sZ P ab q aK r Ym fH (λt ht=>?_) (λy=>?_)
   ·have AM:¬t=s:=λe=>kG (by rw[←e];exact ht);rw[nR fX,ae AM];exact hs t (ZD ht)
   ·rw[rh];have:=hr y;by_cases e:x=y
    ·ext x;omega
    ·rw[ae e];omega
  unfold fk;rw[ato];ext b
  ·rintro⟨x,hx,h⟩;refine⟨x,dS.mpr ((jy x).mp hx).1,?_⟩;rw[af ((jy x).mp hx).2];exact(key x hx).mp h
  ·rintro⟨x,hx,h⟩;by_cases hc:(YG x&&YT x&&q s x)=true
   ·rw[af hc]at h;have om:=(jy x).mpr ⟨dS.mp hx,hc⟩;exact⟨x,om,(key x om).mpr h⟩
   ·rw[ae hc]at h;cases h
end
section
open Vbwbal (Plan Bytes Choice signer load goesWith fits unsigned complete canEnd completion choose subsets)
theorem FN{α β:Type}{f g:α->WA}:∀{l:ZN},(∀a∈l,f a=g a)->l.flatMap f=l.flatMap g
 |[],_=>rfl
 |a::r,h=>by rw[iR,iR,h a aY,FN λb hb=>h b Za3]
def above(ch:Za)(m:Nat):Bool:=ch.isEmpty||decide (ch.getLastD 0<m)
def k_(iM:Yv)(ms:Za):Yv:=iM.flatMap λch=>(ms.filter X8).map λm=>ch++[m]
theorem nu(l:Za):choose 0 l=[[]]:=by cases l<;>rfl
theorem u5:∀(k:Nat) (l ch:Za),ch∈Wv l->(∀x∈ch,x∈l)/\ch.length=k
 |0,l,ch,h=>by rw[nu,bo]at h;subst h;exact⟨λx hx=>(by cases hx),rfl⟩
 |k+1,[],ch,h=>by cases h
 |k+1,x::r,ch,h=>by
  rcases b8.mp h with h|h
  ·ext br;obtain⟨h1,h2⟩:=u5 k r c hc;refine⟨λy hy=>?_,by rw[bb,h2]⟩;rcases aJ.mp hy with e|e
   ·rw[e];exact aY
   ·exact ZD (h1 y e)
  ·obtain⟨h1,h2⟩:=u5 YE r ch h;exact⟨λy hy=>ZD (h1 y hy),h2⟩
theorem Mw:∀(l:Za) (d:Nat),l≠[]->l.getLastD d∈l
 |[],_,h=>absurd rfl h
 |[a],_,_=>bo.mpr rfl
 |a::b::r,d,_=>ZD (Mw (b::r) a Zf)
theorem getLastD_cons(x:Nat)(ch:Za)(h:ch≠[]):(x::ch).getLastD 0=ch.getLastD 0:=by
 cases ch with
 |nil=>exact absurd rfl h
 |cons a r=>rfl
theorem aaK:∀(l:Za),ZcW->∀k,k_ (Wv l) l=Zdn l
 |[],_,k=>by
  cases k with
  |zero=>rfl
  |succ k=>rfl
 |x::r,hp,k=>by
  obtain⟨hx,hr⟩:=Ci.mp hp;have ih:=aaK r hr;cases k with
  |zero=>
   rw[nu];show k_ [[]] (x::r)=(choose 0 r).map ZbL++choose 1 r;rw[←ih 0,nu];unfold k_;simp[above]
  |succ k=>
   show k_ ((Wv r).map ZbL++Zdn r) (x::r)=(Zdn r).map ZbL++choose (k+2) r;rw[←ih YE]
   conv=>rhs;lhs;rw[←ih k]
   unfold k_;rw[oQ,List.flatMap_map,O6];congr 1
   ·refine FN λch gW=>?_;obtain⟨hm,_⟩:=u5 k r ch gW;rw[bz,jf];have um:¬above (x::ch) x=true:=by
     unfold above;rw[h_,bX];rintro(h|h)
     ·cases h
     ·by_cases e:ch=[]
      ·subst e;exact W5 h
      ·rw[getLastD_cons x ch e]at h;have:=hx _ (hm _ (Mw ch 0 e));omega
    rw[ae um];have hf:r.filter (above (x::ch))=r.filter X8:=by
     refine nD λm kH=>?_;unfold above;by_cases e:ch=[]
     ·subst e;have:=hx m kH;simp[this]
     ·rw[getLastD_cons x ch e];have e2:ch.isEmpty=false:=by
       cases ch with
       |nil=>exact absurd rfl e
       |cons a b=>rfl
      rw[e2];rfl
    rw[hf];rfl
   ·refine FN λch gW=>?_;obtain⟨hm,hl⟩:=u5 YE r ch gW;have aK:ch≠[]:=λe=>by rw[e]at hl;cases hl
    rw[jf];have um:¬X8 x=true:=by
     unfold above;rw[h_,bX];rintro(h|h)
     ·exact aK (Ha.mp h)
     ·have:=hx _ (hm _ (Mw ch 0 aK));omega
    rw[ae um]
theorem FX:∀(l:Za) (k:Nat),l.length<k->Wv l=[]
 |[],k+1,_=>rfl
 |x::r,k+1,h=>by have h':r.length<k:=Nat.lt_of_succ_lt_succ h;show(Wv r).map ZbL++Zdn r=[];rw[FX r k h',FX r YE Zb];rfl
theorem ad8:∀(l:Za) (k:Nat),k<=l.length->Wv l≠[]
 |l,0,_=>by rw[nu];simp
 |x::r,k+1,h=>by have:=ad8 r k (Nat.le_of_succ_le_succ h);show(Wv r).map ZbL++Zdn r≠[];intro e;exact this (O7.mp (List.append_eq_nil_iff.mp e).1)
theorem FY:∀(l:Za) (k:Nat),(Wv l).length <=2 ^ l.length
 |l,0=>by rw[nu];exact Nat.one_le_two_pow
 |[],k+1=>ZI
 |x::r,k+1=>by show((Wv r).map ZbL++Zdn r).length <=2 ^ (r.length+1);rw[bS,aq,Nat.pow_succ];have h1:=FY r k;have h2:=FY r YE;omega
theorem N3:∀(k:Nat) (l ch:Za),l.Nodup->ch∈Wv l->ch.Nodup
 |0,l,ch,_,h=>by rw[nu,bo]at h;subst h;exact sq
 |k+1,[],ch,_,h=>by cases h
 |k+1,x::r,ch,hn,h=>by
  ext t;rcases b8.mp h with h|h
  ·ext br;exact df.mpr ⟨λq=>h1 ((u5 k r c hc).1 x q),N3 k r c h2 hc⟩
  ·exact N3 YE r ch h2 h
def levels(l:Za)(n:Nat):Yv:=(List.range n).flatMap λk=>Wv l
theorem abr(l:Za)(n:Nat):levels l Wh=levels l n++VU l:=by unfold levels;rw[Cg,oQ];simp
theorem alu(l:Za):levels l (l.length+1)=subsets l:=rfl
theorem K4(l:Za):∀n,(levels l n).length <=n*2 ^ l.length
 |0=>by simp[levels]
 |n+1=>by rw[abr,bS,Nat.succ_mul];have h1:=K4 l n;have h2:=FY l n;omega
theorem zH{l ch:Za}(h:ZnS):(∀x∈ch,x∈l)/\ch.length<=l.length:=by unfold subsets at h;obtain⟨k,hk,h⟩:=vo.mp h;obtain⟨h1,h2⟩:=u5 k l ch h;have:=dS.mp hk;exact⟨h1,Zb⟩
theorem Ic{l ch:Za}(hn:l.Nodup)(h:ZnS):ch.Nodup:=by unfold subsets at h;obtain⟨k,hk,h⟩:=vo.mp h;exact N3 k l ch hn h
end
section
open Vbwbal (Plan Bytes Choice signer load goesWith fits unsigned complete canEnd completion)
def cI(a b:Za):Bool:=a.any λm=>b.contains m
theorem sX{a b:Za}:cI a b=true↔∃m∈a,m∈b:=by unfold cI;rw[afN];exact⟨λ⟨m,h,e⟩=>⟨m,h,bx.mp e⟩,λ⟨m,h,e⟩=>⟨m,h,bx.mpr e⟩⟩
def si(P:Plan)(ls:Yv)(s:Nat):Yv:=
 (ls.filter λL=>!cI L ZdZ)++[s::(ls.filter λL=>VH).flatten]
def kN(P:Plan)(ss:Za):Yv:=ss.foldl (si P) []
def ia(P:Plan)(ss:Za):Za:=ss.flatMap Y8
theorem Au{P:Plan}{ss:Za}{t:Nat}:t∈ia P ss↔∃s∈ss,(s,t)∈P.unlike∨(t,s)∈P.unlike:=by unfold ia;rw[vo];exact⟨λ⟨s,h,e⟩=>⟨s,h,gC.mp e⟩,λ⟨s,h,e⟩=>⟨s,h,gC.mpr e⟩⟩
def aeG(P:Plan)(L:Za):Prop:=∀g:Nat->Nat,(∀s t,(s,t)∈P.alike->s∈L->t∈L->g s=g t)->∀s∈L,∀t∈L,g s=g t
structure nF(P:Plan)(ks:Za)(ls:Yv):Prop where
 perm:ls.flatten.Perm ks
 ne:∀L∈ls,L≠[]
 gx:∀L∈ls,aeG P L
 pair:∀s t,(s,t)∈P.alike->s∈ks->t∈ks->∃L∈ls,s∈L/\t∈L
theorem nF.nil(P:Plan):nF P [] []:=⟨Pf _,λL h=>Vf,λL h=>Vf,λs t _ h=>Vf⟩
theorem nF.step{P:Plan}{ks:Za}{ls:Yv}{s:Nat}(h:nF P ks ls)(aK:Zew):nF P (ks++[s]) (si P ls s):=by
 have iI:∀t∈ks,∃L∈ls,t∈L:=λt ht=>by have:=h.perm.mem_iff.mpr ht;obtain⟨L,hL,e⟩:=su.mp this;exact⟨L,hL,e⟩
 have au9:∀L∈ls,∀t∈L,t∈ks:=λL hL t ht=>h.perm.mem_iff.mp (su.mpr ⟨L,hL,ht⟩);have xE:∀L∈ls,cI L ZdZ=true->∀t∈L,t∈(ls.filter λL=>VH).flatten :=λL hL hs t ht=>
  su.mpr ⟨L,bD.mpr ⟨hL,hs⟩,ht⟩
 have LS:s::(ls.filter λL=>VH).flatten ∈si P ls s:=je _ aY;refine⟨?_,λL hL=>?_,λL hL=>?_,λa b dc ha hb=>?_⟩
 ·unfold si;rw[afE];have e1:[s::(ls.filter λL=>VH).flatten].flatten =s::(ls.filter λL=>VH).flatten :=by simp
  rw[e1];have p1:((ls.filter λL=>VH)++(ls.filter λL=>!cI L ZdZ)).Perm ls:=List.filter_append_perm _ _;have p2:=p1.flatten;rw[afE]at p2;have p3:(s::((ls.filter λL=>VH).flatten ++(ls.filter λL=>!cI L ZdZ).flatten)).Perm (s::ks):=(p2.trans h.perm).cons s;refine(afr.trans ?_).trans (p3.trans (afr (l₁:=[s]) (l₂:=ks)));exact Pf _
 ·rcases b8.mp hL with q|q
  ·exact h.ne L (bD.mp q).1
  ·rw[bo]at q;rw[q];exact afL _ _
 ·rcases b8.mp hL with q|q
  ·exact h.gx L (bD.mp q).1
  ·rw[bo]at q;subst q;intro g hg;have key:∀y∈(ls.filter λL=>VH).flatten,g y=g s:=by
    intro y hy;obtain⟨L,hL,hyL⟩:=su.mp hy;obtain⟨yf,ye⟩:=bD.mp hL;obtain⟨m,hm,hmp⟩:=sX.mp ye;have hmf:m∈(ls.filter λL=>VH).flatten :=xE L yf ye m hm;have e1:g m=g s:=by
     rcases gC.mp hmp with q|q
     ·exact(hg s m q aY (ZD hmf)).symm
     ·exact hg m s q (ZD hmf) aY
    rw[←e1];exact h.gx L yf g (λa b dc ha hb=>hg a b dc (ZD (xE L yf ye a ha)) (ZD (xE L yf ye b hb))) y hyL m hm
   intro a ha b hb;have fa:g a=g s:=by
    rcases aJ.mp ha with e|e
    ·rw[e]
    ·exact key a e
   have fb:g b=g s:=by
    rcases aJ.mp hb with e|e
    ·rw[e]
    ·exact key b e
   rw[fa,fb]
 ·have old:∀a b,a∈ks->b∈ks->(a,b)∈P.alike->∃L∈si P ls s,a∈L/\b∈L:=λa b ha hb dc=>by
   obtain⟨L,hL,h1,h2⟩:=h.pair a b dc ha hb;cases e:cI L ZdZ with
   |false=>exact⟨L,my _ (bD.mpr ⟨hL,Xo⟩),h1,h2⟩
   |true=>exact⟨_,LS,ZD (xE L hL e a h1),ZD (xE L hL e b h2)⟩
  have new:∀b,b∈ks->b∈Xy s->b∈s::(ls.filter λL=>VH).flatten :=λb hb hp=>by obtain⟨L,hL,h1⟩:=iI b hb;exact ZD (xE L hL (sX.mpr ⟨b,h1,hp⟩) b h1)
  rcases b8.mp ha with j6|j6
  ·rcases b8.mp hb with jC|jC
   ·exact old a b j6 jC dc
   ·have e:=bo.mp jC;subst e;exact⟨_,LS,new a j6 (gC.mpr (.inr dc)),aY⟩
  ·have e:=bo.mp j6;subst e;rcases b8.mp hb with jC|jC
   ·exact⟨_,LS,aY,new b jC (gC.mpr (.inl dc))⟩
   ·have e:=bo.mp jC;subst e;exact absurd rfl (aK _ dc)
theorem ar4(P:Plan)(ss:Za)(s:Nat):kN P (ss++[s])=si P (kN P ss) s:=by unfold kN;rw[Pa];rfl
theorem ac1{P:Plan}(aK:Zew):∀(ss ks:Za) (ls:Yv),nF P ks ls->nF P (ks++ss) (ss.foldl (si P) ls)
 |[],ks,ls,h=>by rw[fc];exact h
 |s::r,ks,ls,h=>by have:=ac1 aK r (ks++[s]) _ (h.step (s:=s) aK);rw[eC]at this;exact this
theorem Fx{P:Plan}(aK:Zew)(ss:Za):nF P ss (kN P ss):=by have:=ac1 aK ss [] [] (nF.nil P);rw[mx]at this;exact this
theorem abx:∀(ls:Yv),(∀L∈ls,L≠[])->ls.length<=ls.flatten.length
 |[],_=>ZC
 |L::r,h=>by have ih:=abx r λM hM=>h M (ZD hM);have h1:0<L.length:=sv.mpr (h L aY);rw[nB,bS,bb];omega
theorem nF.len{P:Plan}{ks:Za}{ls:Yv}(h:nF P ks ls):ls.length<=ks.length:=by rw[←h.perm.length_eq];exact abx ls h.ne
theorem K7:∀(ls:Yv) (L:Za),L∈ls->L.length<=ls.flatten.length
 |M::r,L,h=>by
  rw[nB,bS];rcases aJ.mp h with e|e
  ·rw[e];omega
  ·have:=K7 r L e;omega
abbrev Pt:=List Nat×List Nat
def dm(ps:Xu):Za:=(ps.map Zh).flatten
def jU(ps:Xu):cz:=ps.flatMap λq=>q.1.map λs=>(s,q.2)
theorem lj:∀ps:List Pt,keys ZdY=dm ps
 |[]=>rfl
 |q::r=>by
  unfold keys jU dm;rw[iR,cA,bz,cw,nB];congr 1
  ·exact Zgt
  ·exact lj r
theorem pH{ps:Xu}{s:Nat}:s∈dm ps↔∃q∈ps,s∈q.1:=by
 unfold dm;rw[su];ext b
 ·rintro⟨L,hL,h⟩;obtain⟨q,hq,rfl⟩:=aO.mp hL;exact⟨q,hq,h⟩
 ·rintro⟨q,hq,h⟩;exact⟨q.1,aO.mpr ⟨q,hq,rfl⟩,h⟩
theorem tU{ps:Xu}{p:Zay}:p∈jU ps↔∃q∈ps,p.1∈q.1/\p.2=q.2:=by
 unfold jU;rw[vo];ext b
 ·rintro⟨q,hq,h⟩;obtain⟨s,hs,rfl⟩:=UO;exact⟨q,hq,hs,rfl⟩
 ·rintro⟨q,hq,h1,h2⟩;exact⟨q,hq,aO.mpr ⟨p.1,h1,by rw[←h2]⟩⟩
structure y8(P:Plan)(ps:Xu)(rooms:Y0):Prop where
 nd:(dm ps).Nodup
 ne:∀q∈ps,q.1≠[]
 gx:∀q∈ps,aeG P q.1
 pair:∀s t,(s,t)∈P.alike->s∈dm ps->t∈dm ps->∃q∈ps,s∈q.1/\t∈q.1
 self:∀q∈ps,∀s t,(s,t)∈P.unlike->s∈q.1->t∈q.1->q.2=[]
 room:∀q∈ps,∀x∈q.2,(q.1.length:Int)<=rooms x
def iN(P:Plan)(ps:Xu)(taken:Za)(x:Nat)(room:Int):Xu:=
 (ps.filter λr=>r.1 != taken).map λr=>(r.1,if(decide (room<(r.1.length:Int))||cI r.1 (ia P taken))=true then r.2.filter Zc3 else r.2)
def lZ(rooms:Y0)(x n:Nat):Nat->Int:=λy=>if y=x then rooms y-(n:Int)else rooms y
theorem Af(P:Plan)(ps:Xu)(taken:Za)(x:Nat)(room:Int):dm (iN P ps taken x room)=dm (ps.filter λr=>r.1 != taken):=by unfold dm iN;rw[bz];rfl
theorem apart{ps:Xu}(nd:(dm ps).Nodup):∀{q r:Pt},q∈ps->r∈ps->∀{s},s∈q.1->s∈r.1->q=r:=by
 induction ps with
 |nil=>intro q r h;cases h
 |cons a l ih=>
  intro q r hq hr s h1 h2;have e:dm (a::l)=a.1++dm l:=rfl;rw[e]at nd;obtain⟨n1,n2,n3⟩:=mw.mp nd;rcases aJ.mp hq with eq|i7
  ·rcases aJ.mp hr with er|gS
   ·rw[eq,er]
   ·subst eq;exact absurd rfl (n3 s h1 s (pH.mpr ⟨r,gS,h2⟩))
  ·rcases aJ.mp hr with er|gS
   ·subst er;exact absurd rfl (n3 s h2 s (pH.mpr ⟨q,i7,h1⟩))
   ·exact ih n2 i7 gS h1 h2
theorem D6{q:Pt}:∀{ps:Xu},(dm ps).Nodup ->(∀r∈ps,r.1≠[])->q∈ps->(dm ps).Perm (q.1++dm V6)
 |a::l,nd,ne,hq=>by
  have e:dm (a::l)=a.1++dm l:=rfl;have nd':=nd;rw[e]at nd';obtain⟨n1,n2,n3⟩:=mw.mp nd';rw[e,jf];by_cases h:a.1=q.1
  ·have hb:¬(a.1 != q.1)=true:=by simp[h]
   rw[ae hb,←h];have:l.filter (λr=>r.1 != a.1)=l:=Pc.mpr λr hr=>by rw[u7];intro er;obtain⟨s,hs⟩:=afH _ (ne a aY);exact n3 s hs s (pH.mpr ⟨r,hr,by rw[er];exact hs⟩) rfl
   rw[this]
  ·have hb:(a.1 != q.1)=true:=by simpa using h
   rw[af hb];have cF:q∈l:=(aJ.mp hq).resolve_left λe=>h (by rw[e]);have ih:=D6 (q:=q) n2 (λr hr=>ne r (ZD hr)) cF;have e2:dm (a::l.filter λr=>r.1 != q.1)=a.1++dm (l.filter λr=>r.1 != q.1):=rfl;rw[e2];refine(ih.append_left a.1).trans ?_;rw[←eC,←eC];exact afr.append_right _
theorem BE{l:Za}{g:UN}{x:Nat}(h:∀s∈l,g s=x)(y:Nat):l.countP ZcX=if y=x then l.length else 0:=by
 ext u
 ·rw[af e,List.countP_eq_length.mpr λs hs=>by rw[h s hs,e];simp]
 ·rw[ae e,List.countP_eq_zero.mpr λs hs=>by rw[h s hs];simpa using λq=>Uz]
theorem ah7{P:Plan}{ps:Xu}{rooms:Y0}(ok:y8 P ps rooms)(h0:Zm8){q:Pt}(hq:q∈ps):
  Sat P ZdY rooms↔∃x∈q.2,W6 (jU (ZbE ZkG)) Zth:=by
 have lq:=D6 ok.nd ok.ne hq;have kC:∀x room s,s∈keys (jU (ZbE room))↔s∈dm V6:=λx room s=>by rw[lj,Af]
 have EX:∀s,s∈dm V6->s∈dm ps:=λs hs=>ZtL;have ux:∀s,s∈dm ps->s∉q.1->s∈dm V6:=λs hs hn=>(b8.mp (lq.mem_iff.mp hs)).resolve_left hn;have xZ:∀(g:UN) y,(dm ps).countP ZcX=q.1.countP ZcX+(dm V6).countP ZcX:=λg y=>by rw[lq.countP_eq,Cq]
 obtain⟨s0,fX⟩:=afH _ (ok.ne q hq);ext b
 ·rintro⟨g,hg⟩;have hk:∀s,s∈keys ZdY↔s∈dm ps:=λs=>by rw[lj]
  have same:∀r∈ps,∀s∈r.1,∀t∈r.1,g s=g t:=λr hr=>ok.gx r hr g λs t aT hs ht=>Uy aT ((hk s).mpr (pH.mpr ⟨r,hr,hs⟩)) ((hk t).mpr (pH.mpr ⟨r,hr,ht⟩));have iH:∀s∈q.1,g s=g s0:=λs hs=>same q hq s hs s0 fX;refine⟨g s0,hg.opt (s0,q.2) (tU.mpr ⟨q,hq,fX,rfl⟩),g,?_⟩;refine⟨λp hp=>?_,λs t h1 h2 h3=>ZcM ZpP ZpQ,λs t h1 h2 h3=>Uy h1 ZpP ZpQ,λy=>?_⟩
  ·obtain⟨r',iG,h1,h2⟩:=tU.mp hp;obtain⟨r,hr,rfl⟩:=aO.mp iG;obtain⟨gS,gR⟩:=bD.mp hr;have aK:r.1≠q.1:=by simpa using gR
   have hgr:g p.1∈r.2:=hg.opt (p.1,r.2) (tU.mpr ⟨r,gS,h1,rfl⟩);rw[h2];show g p.1∈(if _ then _ else _);split
   ·rename_i hc;rw[bD];refine⟨hgr,?_⟩;rw[u7];intro hx;have dB:∀s∈r.1,g s=g s0:=λs hs=>(same r gS s hs p.1 h1).trans hx;rw[h_]at hc;rcases hc with hc|hc
    ·have hc:=lX hc;have h5:=hg.room (g s0);rw[lj,xZ,BE iH,af rfl]at h5;have ju:r∈ps.filter λr=>r.1 != q.1:=hr;have q_:(dm V6).Nodup :=by have:=Zly;exact(mw.mp this).2.1
     have dP:=D6 q_ (λr' h=>ok.ne r' (bD.mp h).1) ju;rw[dP.countP_eq,Cq,BE dB,af rfl]at h5;omega
    ·obtain⟨m,hm,AZ⟩:=sX.mp hc;obtain⟨t,ht,hu⟩:=Au.mp AZ;have xS:m∈keys ZdY:=(hk m).mpr (pH.mpr ⟨r,gS,hm⟩);have htk:t∈keys ZdY:=(hk t).mpr (pH.mpr ⟨q,hq,ht⟩);rcases hu with hu|hu
     ·exact hg.unlike t m hu htk xS ((iH t ht).trans (dB m hm).symm)
     ·exact hg.unlike m t hu xS htk ((dB m hm).trans (iH t ht).symm)
   ·exact hgr
  ·have h5:=hg.room y;rw[lj,xZ,BE iH]at h5;rw[lj,Af];unfold lZ;by_cases e:y=g s0
   ·rw[af e]at h5⊢;omega
   ·rw[ae e]at h5⊢;omega
 ·rintro⟨x,hx,g,hg⟩;refine⟨λs=>if s∈q.1 then x else g s,?_⟩;have inr:∀r∈ps,∀s∈r.1,s∉q.1->r∈ps.filter λr=>r.1 != q.1:=λr hr s hs hn=>bD.mpr ⟨hr,by rw[u7];intro e;exact hn (e▸hs)⟩
  have Mv:∀r∈ps,∀s∈r.1,s∉q.1->g s∈r.2/\((decide (rooms x-(q.1.length:Int)<(r.1.length:Int))||cI r.1 ZfP)=true->g s≠x):=λr hr s hs hn=>by
   have h1:=hg.opt (s,_) (tU.mpr ⟨_,aO.mpr ⟨r,inr r hr s hs hn,rfl⟩,hs,rfl⟩);have h1:g s∈(if(decide (rooms x-(q.1.length:Int)<(r.1.length:Int))||cI r.1 ZfP)=true then r.2.filter Zc3 else r.2):=h1;split at h1
   ·obtain⟨h2,h3⟩:=bD.mp h1;exact⟨h2,λ_=>by simpa using h3⟩
   ·rename_i hc;exact⟨h1,λq=>absurd q hc⟩
  refine ZoJ
  ·obtain⟨r,hr,h1,h2⟩:=tU.mp hp;show(if p.1∈q.1 then x else g p.1)∈p.2;rw[h2];by_cases hm:p.1∈q.1
   ·rw[af hm];have:q=r:=ZmK hm h1;rw[←this];exact hx
   ·rw[ae hm];exact(Mv r hr p.1 h1 hm).1
  ·rw[lj]at h2 h3;show(if s∈q.1 then x else g s)≠(if t∈q.1 then x else g t);by_cases es:s∈q.1
   ·rw[af es];by_cases et:t∈q.1
    ·have:=ok.self q hq s t h1 es et;rw[this]at hx;cases hx
    ·rw[ae et];obtain⟨r,hr,rG⟩:=pH.mp h3;exact λe=>(Mv r hr t rG et).2 (by rw[h_];exact .inr (sX.mpr ⟨t,rG,Au.mpr ⟨s,es,.inl h1⟩⟩)) e.symm
   ·rw[ae es];by_cases et:t∈q.1
    ·rw[af et];obtain⟨r,hr,dv⟩:=pH.mp h2;exact(Mv r hr s dv es).2 (by rw[h_];exact .inr (sX.mpr ⟨s,dv,Au.mpr ⟨t,et,.inr h1⟩⟩))
    ·rw[ae et];exact ZcM Zro Zrp
  ·rw[lj]at h2 h3;show(if s∈q.1 then x else g s)=(if t∈q.1 then x else g t);obtain⟨r,hr,dv,rG⟩:=ok.pair s t h1 h2 h3;by_cases es:s∈q.1
   ·have:q=r:=ZmK es dv;rw[af es,af (by rw[this];exact rG)]
   ·by_cases et:t∈q.1
    ·have:q=r:=ZmK et rG;exact absurd (by rw[this];exact dv) es
    ·rw[ae es,ae et];exact Uy h1 Zro Zrp
  ·have h5:=hg.room y;rw[lj,Af]at h5;rw[lj,xZ,BE (x:=x) (λs hs=>af hs)];have e1:(dm V6).countP (λs=>(if s∈q.1 then x else g s)==y)=(dm V6).countP ZcX:=by
    refine List.countP_congr λs hs=>?_;have:s∉q.1:=λcF=>by have q_:=Zly;exact(mw.mp q_).2.2 s cF s hs rfl
    rw[ae this]
   rw[e1];unfold lZ at h5;ext u
   ·rw[af e]at h5⊢;omega
   ·rw[ae e]at h5⊢;omega
theorem y8.behind{P:Plan}{ps:Xu}{rooms:Y0}(ok:y8 P ps rooms){q:Pt}(hq:q∈ps)(x:Nat):y8 P (ZbE ZkG) Zth:=by
 have lq:=D6 ok.nd ok.ne hq;have q_:=Zly;have mem:∀r'∈ZbE ZkG,∃r∈ps,r.1≠q.1/\r'.1=r.1/\r'.2=(if(decide (rooms x-(q.1.length:Int)<(r.1.length:Int))||cI r.1 ZfP)=true then r.2.filter Zc3 else r.2):=λr' iG=>by obtain⟨r,hr,rfl⟩:=aO.mp iG;obtain⟨h1,h2⟩:=bD.mp hr;exact⟨r,h1,ZlZ,rfl,rfl⟩
 refine⟨?_,λr' iG=>?_,λr' iG=>?_,λs t aT hs ht=>?_,λr' iG s t aT hs ht=>?_,λr' iG y hy=>?_⟩
 ·rw[Af];exact(mw.mp q_).2.1
 ·obtain⟨r,h1,_,e,_⟩:=mem r' iG;rw[e];exact ok.ne r h1
 ·obtain⟨r,h1,_,e,_⟩:=mem r' iG;rw[e];exact ok.gx r h1
 ·rw[Af]at hs ht;have up:∀s,s∈dm V6->s∈dm ps/\s∉q.1:=λs hs=>⟨ZtL,λcF=>(mw.mp q_).2.2 s cF s hs rfl⟩;obtain⟨r,hr,h1,h2⟩:=ok.pair s t aT (up s hs).1 (up t ht).1;refine⟨_,aO.mpr ⟨r,bD.mpr ⟨hr,?_⟩,rfl⟩,h1,h2⟩;rw[u7];intro e;exact(up s hs).2 (e▸h1)
 ·obtain⟨r,h1,_,e1,e2⟩:=mem r' iG;rw[e1]at hs ht;have:=ok.self r h1 s t aT hs ht;rw[e2,this];split<;>rfl
 ·obtain⟨r,h1,_,e1,e2⟩:=mem r' iG;rw[e1];rw[e2]at hy;unfold lZ;split at hy
  ·obtain⟨hy1,hy2⟩:=bD.mp hy;have aK:y≠x:=by simpa using hy2
   rw[ae aK];exact ok.room r h1 y hy1
  ·rename_i hc;ext u
   ·rw[af e,e];rw[h_,not_or]at hc;have:¬(rooms x-(q.1.length:Int)<(r.1.length:Int)):=λz=>hc.1 (bu z);omega
   ·rw[ae e];exact ok.room r h1 y hy
theorem alv{rooms:Y0}{x n:Nat}(h:∀y,0<=rooms y)(hx:(n:Int)<=rooms x):∀y,0<=lZ rooms x n y:=λy=>by
 unfold lZ;ext u
 ·rw[af e,e];omega
 ·rw[ae e];exact h y
def jk(P:Plan)(o:cz)(rooms:Y0)(ss:Za):Pt:=
 (ss,if cI ss Zgk=true then []else((fE o (ss.headD 0)).filter λx=>decide ((ss.length:Int)<=rooms x)).filter λx=>ss.all λs=>(fE o s).contains x)
def partsOf(P:Plan)(o:cz)(rooms:Y0):Xu:=(kN P XS).map ZiP
theorem Eo{P:Plan}{o:cz}{rooms:Y0}{ss:Za}(aK:ss≠[]){x:Nat}:x∈(ZiP ss).2↔cI ss Zgk=false/\(ss.length:Int)<=rooms x/\∀s∈ss,x∈fE o s:=by
 unfold jk;ext i;cases e:cI ss Zgk with
 |true=>simp
 |false=>
  rw[ae Zf,bD,bD,bX,dh];ext b
  ·rintro⟨⟨h1,h2⟩,h3⟩;exact⟨rfl,h2,λs hs=>bx.mp (h3 s hs)⟩
  ·rintro⟨_,h2,h3⟩;refine⟨⟨h3 _ ?_,h2⟩,λs hs=>bx.mpr (h3 s hs)⟩;cases ss with
   |nil=>exact absurd rfl aK
   |cons a r=>exact aY
theorem aaF{o:cz}(hn:Ze8){p:Zay}(h:p∈o):fE o p.1=p.2:=by
 unfold fE;have:o.find? (λq=>q.1==p.1)=some p:=by
  induction o with
  |nil=>cases h
  |cons a r ih=>
   rw[oR];have xR:(a.1::keys r).Nodup :=hn;obtain⟨n1,n2⟩:=df.mp xR;by_cases e:a.1=p.1
   ·have:a=p:=(aJ.mp h).elim (λq=>q.symm) λq=>absurd (by rw[e];exact aO.mpr ⟨p,q,rfl⟩) n1;have hb:(a.1==p.1)=true:=by simp[e]
    rw[hb,this]
   ·have hb:(a.1==p.1)=false:=by simpa using e
    rw[hb];exact ih n2 ((aJ.mp h).resolve_left λq=>e (by rw[q]))
 rw[this];rfl
theorem Ae(P:Plan)(o:cz)(rooms:Y0):dm ZeF=(kN P XS).flatten :=by unfold dm partsOf;rw[bz];congr 1;exact Zgt
theorem aie{P:Plan}(aK:Zew){o:cz}(hn:Ze8)(rooms:Y0):y8 P ZeF rooms:=by
 have G:=Fx aK XS;have mem:∀q∈partsOf P o rooms,∃L∈kN P XS,q=ZiP L:=λq hq=>by obtain⟨L,hL,rfl⟩:=aO.mp hq;exact Zn1
 refine⟨?_,λq hq=>?_,λq hq=>?_,λs t aT hs ht=>?_,λq hq s t aT hs ht=>?_,λq hq x hx=>?_⟩
 ·rw[Ae];exact G.perm.nodup_iff.mpr hn
 ·ext aq;exact ZbN
 ·ext aq;exact G.gx L hL
 ·rw[Ae]at hs ht;obtain⟨L,hL,h1,h2⟩:=G.pair s t aT (G.perm.mem_iff.mp hs) (G.perm.mem_iff.mp ht);exact⟨_,aO.mpr Zn1,h1,h2⟩
 ·ext aq;have:cI L (ia P L)=true:=sX.mpr ⟨t,ht,Au.mpr ⟨s,hs,.inl aT⟩⟩;unfold jk;rw[af this]
 ·ext aq;exact((Eo ZbN).mp hx).2.1
theorem ahL{P:Plan}(aK:Zew){o:cz}(hn:Ze8)(rooms:Y0):W6 o rooms↔W6 (jU ZeF) rooms:=by
 have G:=Fx aK XS;have hk:∀s,s∈keys (jU ZeF)↔s∈keys o:=λs=>by rw[lj,Ae];exact G.perm.mem_iff
 have hc:∀p:Nat->Bool,(keys (jU ZeF)).countP p=(keys o).countP p:=λp=>by rw[lj,Ae];exact G.perm.countP_eq p
 have rM:∀s∈keys o,∃l,(s,l)∈o:=λs hs=>by obtain⟨p,hp,rfl⟩:=aO.mp hs;exact⟨p.2,hp⟩
 ext b
 ·rintro⟨g,hg⟩;refine⟨g,λp hp=>?_,λs t h1 h2 h3=>ZcM ((hk s).mp h2) ((hk t).mp h3),λs t h1 h2 h3=>Uy h1 ((hk s).mp h2) ((hk t).mp h3),λx=>by rw[hc];exact hg.room x⟩;obtain⟨q,hq,h1,h2⟩:=tU.mp hp;obtain⟨L,hL,rfl⟩:=aO.mp hq;have h1:p.1∈L:=h1;have uf:∀s∈L,s∈keys o:=λs hs=>G.perm.mem_iff.mp (su.mpr ⟨L,hL,hs⟩);have same:∀s∈L,∀t∈L,g s=g t:=G.gx L hL g λs t aT hs ht=>Uy aT (uf s hs) (uf t ht);rw[h2,Eo ZbN];refine⟨?_,?_,λs hs=>?_⟩
  ·cases e:cI L (ia P L)with
   |false=>rfl
   |true=>
    obtain⟨m,hm,hu⟩:=sX.mp e;obtain⟨t,ht,hu⟩:=Au.mp hu;rcases hu with hu|hu
    ·exact absurd (same t ht m hm) (hg.unlike t m hu (uf t ht) (uf m hm))
    ·exact absurd (same m hm t ht) (hg.unlike m t hu (uf m hm) (uf t ht))
  ·have h5:=hg.room (g p.1);rw[←hc,lj,Ae]at h5;have:L.length<=(kN P XS).flatten.countP (λs=>g s==g p.1):=by
    have e1:L.countP (λs=>g s==g p.1)=L.length:=by rw[BE (x:=g p.1) (λs hs=>same s hs p.1 h1),af rfl]
    rw[←e1];obtain⟨l1,l2,e⟩:=List.append_of_mem hL;rw[e,afE,nB,Cq,Cq];omega
   omega
  ·obtain⟨l,hl⟩:=rM s (uf s hs);rw[aaF hn hl,same p.1 h1 s hs];exact hg.opt _ hl
 ·rintro⟨g,hg⟩;refine⟨g,λp hp=>?_,λs t h1 h2 h3=>ZcM ((hk s).mpr h2) ((hk t).mpr h3),λs t h1 h2 h3=>Uy h1 ((hk s).mpr h2) ((hk t).mpr h3),λx=>by rw[←hc];exact hg.room x⟩;have:p.1∈(kN P XS).flatten :=G.perm.mem_iff.mpr Zla;obtain⟨L,hL,hs⟩:=su.mp this;have h1:=hg.opt (p.1,(ZiP L).2) (tU.mpr ⟨_,aO.mpr Zn1,hs,rfl⟩);have h2:=((Eo ZbN).mp h1).2.2 p.1 hs;rw[aaF hn hp]at h2;exact h2
end
section
open Vbwbal (Plan Bytes Choice signer load goesWith fits unsigned complete canEnd completion choose subsets)
def c8(w:Choice):Nat->Nat->Bool:=λt y=>match signer w t with
 |some x=>y==x
 |none=>true
def iO(P:Plan)(ab:Za):Choice->Choice->Prop
 |[],_=>True
 |(s,x)::w,c=>(x<P.persons.length/\YG x=true/\YT x=true)/\WW Ym
theorem CD(P:Plan)(ab:Za)(s x:Nat):∀(w c:Choice),Zjk c↔WW c/\(x<P.persons.length/\YG x=true/\Zc5 x=true)
 |[],c=>by rw[mx,fc];exact⟨λh=>⟨trivial,h.1⟩,λh=>⟨h.2,trivial⟩⟩
 |(t,y)::w,c=>by show(_/\Zjk (c++[(t,y)]))↔(_/\WW (c++[(t,y)]))/\_;rw[ZiH (c++[(t,y)]),eC];exact and_assoc.symm
theorem aoE{f:ZlQ}{n x:Nat}(hx:x<n)(h:∀y,y≠x->f y=none):(List.range n).findSome? f=f x:=by
 induction n with
 |zero=>exact absurd hx (OU _)
 |succ n ih=>
  rw[Cg,List.findSome?_append];by_cases e:x=n
  ·subst e;have:(List.range x).findSome? f=none:=afF.mpr λy hy=>h y (λq=>by have:=dS.mp hy;omega)
   rw[this];simp
  ·rw[ih Zb];have:f n=none:=h n λq=>Uz;simp[this]
theorem aoF{f:ZlQ}{n:Nat}(h:∀y,y<n->f y=none):(List.range n).findSome? f=none:=
 afF.mpr λy hy=>h y (dS.mp hy)
theorem ad1(P:Plan)(ab:Za)(q:VF):∀(w:Choice) (rest:Za) (c:Choice),(∀p∈w,∀y,q p.1 y=(y==p.2))->WW c->Zk9 c=Ww q rest (c++w)
 |[],rest,c,_,_=>by rw[fc];rfl
 |(s,x)::w,rest,c,hq,hv=>by
  obtain⟨⟨h1,h2,h3⟩,ig⟩:=hv;have EZ:∀y,q s y=(y==x):=λy=>hq (s,x) aY y;have e0:Ww q ((((s,x)::w).map Zh)++rest) c=(List.range P.persons.length).findSome? λx=>if(YG x&&YT x&&q s x)=true then Zk9 Ym else none:=rfl
  rw[e0,aoE h1 λy hy=>by rw[ae];rw[EZ y,aQ];exact λe=>hy (by simpa using e.2)]
  rw[af (by rw[h2,h3,EZ];simp),ad1 P ab q w rest _ Ztl ig,eC];rfl
theorem ad2(P:Plan)(ab:Za)(q:VF):∀(w:Choice) (rest:Za) (c:Choice),(∀p∈w,∀y,q p.1 y=(y==p.2))->¬WW c->Zk9 c=none
 |[],rest,c,_,hv=>absurd trivial hv
 |(s,x)::w,rest,c,hq,hv=>by
  have EZ:∀y,q s y=(y==x):=λy=>hq (s,x) aY y;show Ww q (s::(w.map Zh++rest)) c=_;unfold fk;refine aoF λy hy=>?_;by_cases hc:(YG y&&YT y&&q s y)=true
  ·rw[af hc];rw[aQ,aQ,EZ]at hc;obtain⟨⟨h1,h2⟩,h3⟩:=hc;have e:y=x:=by simpa using h3
   subst e;exact ad2 P ab q w rest _ Ztl λh=>hv ⟨⟨hy,h1,h2⟩,h⟩
  ·rw[ae hc]
theorem ad0(P:Plan)(ab:Za)(q:VF):∀(l:Za) (c:Choice),(∀t∈l,∀y,q t y=true)->Ww q l c=YZ l c
 |[],c,_=>rfl
 |s::r,c,h=>by unfold fk complete;congr 1;funext x;rw[h s aY x,vG,ad0 P ab q r _ λt ht=>h t (ZD ht)]
theorem Mu(P:Plan)(ab:Za)(c w:Choice)(s x:Nat)(r:Za)(hw:WW c)(hn:ZkL):
  (Ww (c8 Zao) (w.map Zh++s::r) c).isSome =true↔
   (x<P.persons.length/\YG x=true/\Zc5 x=true)/\(YZ r (c++w++[(s,x)])).isSome =true:=by
 have kG:=mw.mp hn;have hnk:(((w++[(s,x)]).map Zh)++r).Nodup :=by rw[cA];show((w.map Zh++[s])++r).Nodup;rw[eC];exact hn
 have hk:=mw.mp hnk;have hq:∀p∈w++[(s,x)],∀y,c8 Zao p.1 y=(y==p.2):=λp hp y=>by unfold c8;rw[wA hk.1 (show(p.1,p.2)∈w++[(s,x)]from hp)]
 have rO:∀t∈r,∀y,c8 Zao t y=true:=λt ht y=>by unfold c8;have:signer Zao t=none:=zM.mpr λhm=>(hk.2.2 t hm t ht) rfl;rw[this]
 have el:w.map Zh++s::r=(w++[(s,x)]).map Zh++r:=by rw[cA,eC];rfl
 rw[el];by_cases hv:Zjk c
 ·rw[ad1 P ab _ _ r c hq hv,ad0 P ab _ r _ rO,←eC];exact⟨λh=>⟨((ZiH c).mp hv).2,h⟩,λh=>h.2⟩
 ·rw[ad2 P ab _ _ r c hq hv];exact⟨λh=>Vf,λh=>absurd ((ZiH c).mpr ⟨hw,h.1⟩) hv⟩
theorem adv{p:ZbP}{f:ZlQ}:∀{l:Za} {x:Nat} {r:Za},(∀y∈l,(f y).isSome =p y)->l.filter p=x::r->l.findSome? f=f x
 |[],x,r,_,h=>by cases h
 |a::l,x,r,hp,h=>by
  rw[jf]at h;rw[List.findSome?_cons];have ha:=hp a aY;by_cases e:p a=true
  ·rw[af e]at h;have:a=x:=(afM h).1;subst this;rw[e]at ha;cases ef:f a with
   |none=>rw[ef]at ha;cases ha
   |some v=>rfl
  ·rw[ae e]at h;have ef:f a=none:=by
    cases q:f a with
    |none=>rfl
    |some v=>
     rw[q]at ha;exact absurd ha.symm e
   rw[ef];exact adv (λy hy=>hp y ZdI) h
theorem anR{P:Plan}{c:Choice}{s x t y:Nat}(h:ZbQ)(ht:t≠s)(hx:Zi0)(g:W8 Ym t y=true):W8 c t y=true:=((Fy h ht hx).mp g).1
theorem Mt{P:Plan}{ab:Za}{t y:Nat}:∀(w c:Choice),WW c->(∀p∈w,ZS p.1=none)->(w.map Zh).Nodup ->t∉w.map Zh->W8 (c++w) t y=true->W8 c t y=true
 |[],c,_,_,_,_,g=>by rw[fc]at g;exact g
 |(s,x)::w,c,hv,hs,hn,ht,g=>by
  obtain⟨⟨h1,h2,h3⟩,ig⟩:=hv;obtain⟨kG,fH⟩:=Zb9;have AM:t≠s:=λe=>ht (by rw[e];exact aY);have fX:=hs (s,x) aY;have g':W8 Ym t y=true:=by
   refine Mt w Ym ig (λp hp=>?_) fH (λm=>ht (ZD m)) ?_
   ·have:¬p.1=s:=λe=>kG (by show s∈w.map Zh;rw[←e];exact Zla)
    rw[nR fX,ae this];exact hs p (ZD hp)
   ·rw[eC];exact g
  exact anR fX AM ((ZdP x).mp h3).2.2 g'
theorem aoC(P:Plan)(ab:Za)(c w:Choice)(s:Nat)(r:Za)(hw:WW c)(hn:ZkL)(hs:ZqP){x:Nat}{rest:Za}
  (hx:(ZJ s).filter Zd4=x::rest):
  complete P ab Za5 (c++w)=YZ r (c++w++[(s,x)])/\Zjk c/\x∈ZJ s:=by
 have kG:=mw.mp hn;have om:x∈(ZJ s).filter Zd4:=by rw[hx];exact aY
 obtain⟨AJ,hx2⟩:=bD.mp om;have hg:=(Mu P ab c w s x r hw hn).mp hx2;refine⟨?_,(ZiH c).mpr ⟨hw,hg.1⟩,AJ⟩;have gj:(ZJ s).filter Zd4=
   (List.range P.persons.length).filter (λy=>(if(YG y&&Zc5 y)=true then YZ r (c++w++[(s,y)])else none).isSome):=by
  unfold bR;rw[qt];refine nD λy hy=>?_;have jr:=dS.mp hy;have hgy:=Mu P ab c w s y r hw hn;rw[iS,aQ,hgy];by_cases hc:(YG y&&Zc5 y)=true
  ·rw[af hc];rw[aQ]at hc;ext b
   ·exact λh=>h.1.2
   ·intro h;refine⟨Zs4,?_⟩;rw[aQ];refine Zn9
  ·rw[ae hc];ext b
   ·rintro⟨⟨⟨_,h1,h2⟩,_⟩,_⟩;exact absurd (by rw[h1,h2];rfl) hc
   ·intro h;cases h
 rw[gj]at hx;have:=adv (f:=λy=>if(YG y&&Zc5 y)=true then YZ r (c++w++[(s,y)])else none) (λy _=>rfl) hx;show(List.range P.persons.length).findSome? _=_;rw[this,af (by rw[hg.1.2.1,hg.1.2.2];rfl)]
theorem aoD(P:Plan)(ab:Za)(c w:Choice)(s:Nat)(r:Za)(hw:WW c)(hn:ZkL)(hs:ZqP)
  (h:(YZ Za5 (c++w)).isSome =true):(ZJ s).filter Zd4≠[]:=by
 have kG:=mw.mp hn;unfold complete at h;obtain⟨y,hy,h⟩:=ato.mp h;have jr:=dS.mp hy;by_cases hc:(YG y&&Zc5 y)=true
 ·rw[af hc]at h;rw[aQ]at hc;intro e;have hm:y∈(ZJ s).filter Zd4:=by refine bD.mpr ⟨?_,(Mu P ab c w s y r hw hn).mpr Zs4⟩;unfold bR;refine bD.mpr ⟨hy,?_⟩;rw[aQ];exact Zn9
  rw[e]at hm;cases hm
 ·rw[ae hc]at h;cases h
end
section
open Vbwbal (Plan Bytes Choice splitBy wordsOf letter digit isName numOf lineOf text)
def dX(c:Nat):Nat:=if c=32 then 32 else if c=10 then 10 else if 97<=c/\c<123 then c else if 48<=c/\c<58 then c else 63
def mask(w:Bytes):Bytes:=w.map dX
theorem alc{c:Nat}:dX c=32↔c=32:=by
 unfold dX;ext b
 ·intro h;split at h
  ·assumption
  ·split at h
   ·omega
   ·split at h
    ·omega
    ·split at h
     ·omega
     ·omega
 ·intro h;rw[af h]
theorem ald{c:Nat}:dX c=10↔c=10:=by
 unfold dX;ext b
 ·intro h;split at h
  ·omega
  ·split at h
   ·assumption
   ·split at h
    ·omega
    ·split at h
     ·omega
     ·omega
 ·intro h;rw[ae Zb,af h]
theorem KY{c:Nat}:letter (dX c)=letter c:=by
 unfold letter dX;split
 ·rw[‹c=32›]
 ·split
  ·rw[‹c=10›]
  ·split
   ·rfl
   ·split
    ·rfl
    ·rw[aX Zb,aX Zb]
theorem K0{c:Nat}:digit (dX c)=digit c:=by
 unfold digit dX;split
 ·rw[‹c=32›]
 ·split
  ·rw[‹c=10›]
  ·split
   ·rfl
   ·split
    ·rfl
    ·rw[aX Zb,aX Zb]
theorem KZ{c:Nat}(h:letter c=true∨digit c=true):dX c=c:=by
 unfold letter digit at h;rw[bX,bX]at h;unfold dX;rw[ae Zb,ae Zb];by_cases h1:97<=c/\c<123
 ·rw[af h1]
 ·rw[ae h1,af Zb]
theorem aa7{c:Nat}(h:letter (dX c)=true∨digit (dX c)=true):dX c=c:=by rw[KY,K0]at h;exact KZ h
theorem lQ(sep:Nat):∀l,WO l≠[]
 |[]=>by simp[splitBy]
 |c::r=>by
  unfold splitBy;split
  ·simp
  ·split<;>simp
theorem Il(sep:Nat)(hs:∀c,dX c=sep↔c=sep):∀l,WO (mask l)=(WO l).map mask
 |[]=>rfl
 |c::r=>by
  have ih:=Il sep hs r;show WO (dX c::mask r)=_;unfold splitBy;by_cases e:c=sep
  ·rw[af ((hs c).mpr e),af e,ih];rfl
  ·rw[ae (λq=>e ((hs c).mp q)),ae e,ih];cases h:WO r with
   |nil=>exact ZdL (lQ sep r)
   |cons x l=>rfl
theorem alb(w:Bytes):(mask w).isEmpty =w.isEmpty:=by cases w<;>rfl
theorem agj(l:Bytes):wordsOf (mask l)=(wordsOf l).map mask:=by unfold wordsOf;rw[Il 32 λc=>alc,vt];congr 1;refine nD λw _=>?_;show((mask w).isEmpty ==false)=(w.isEmpty==false);rw[alb]
theorem agi{l w:Bytes}(h:w∈wordsOf l):w≠[]:=by unfold wordsOf at h;have:=(bD.mp h).2;intro e;rw[e]at this;cases this
def Er(t:Bytes):VT:=(Xh t).map λl=>(wordsOf l).map mask
theorem alq(t:Bytes):Er t=(Xh (mask t)).map wordsOf:=by unfold Er;rw[Il 10 λc=>ald,bz];refine gv λl _=>?_;exact(agj l).symm
theorem aew(p:ZbP)(hp:∀c,p (dX c)=p c)(w:Bytes):(mask w).all p=w.all p:=by unfold mask;rw[mB];congr 1;funext c;exact hp c
theorem ab4(w:Bytes):isName (mask w)=isName w:=by
 unfold isName;rw[aew _ (λc=>by rw[KY,K0])];congr 1
 ·cases w with
  |nil=>rfl
  |cons c r=>exact KY
 ·unfold mask;rw[aq]
theorem atR{w:Bytes}(h:isName w=true):mask w=w:=by unfold isName at h;rw[aQ,aQ]at h;have h2:=dh.mp h.2.1;unfold mask;refine(gv λc hc=>?_).trans (G_ w);have:=h2 c hc;rw[h_]at this;exact KZ this
theorem pB{w v:Bytes}(hv:∀c∈v,letter c=true∨digit c=true):(mask w=v)↔w=v:=by
 ext b
 ·intro h;have:∀(w v:Bytes),(∀c∈v,letter c=true∨digit c=true)->mask w=v->w=v:=by
   intro w
   induction w with
   |nil=>intro v _ h;exact h
   |cons c r ih=>
    intro v hv h;cases v with
    |nil=>cases h
    |cons d s=>
     have h1:dX c=d:=(afM h).1;have h2:mask r=s:=(afM h).2;have hd:=hv d aY;rw[←h1]at hd;rw[ih s (λc hc=>hv c (ZD hc)) h2,←h1,aa7 hd]
  exact this w v hv h
 ·intro h;subst h;unfold mask;refine(gv λc hc=>?_).trans (G_ w);exact KZ (hv c hc)
def gB(w:Bytes):Bool:=decide (w.length<=2)&&(w.all digit&&(decide (w.length=1)||decide (w.head?≠some 48)))
end
section
open Vbwbal (Plan Bytes Choice signer load goesWith fits unsigned complete canEnd completion choose subsets countWays)
def bJ{α:Type}(f:ZdR):ZN->Nat
 |[]=>0
 |a::r=>f a+bJ f r
theorem zG{α:Type}(f:ZdR):∀(l m:ZN),bJ f (l++m)=bJ f l+bJ f m
 |[],m=>by rw[mx];show _=0+_;omega
 |a::r,m=>by show f a+bJ f (r++m)=f a+bJ f r+bJ f m;rw[zG f r m];omega
theorem lN{α:Type}{f g:ZdR}:∀{l:ZN},(∀a∈l,f a=g a)->bJ f l=bJ g l
 |[],_=>rfl
 |a::r,h=>by show f a+bJ f r=g a+bJ g r;rw[h a aY,lN λb hb=>h b Za3]
theorem zF{α β:Type}(f:β->Nat)(g:α->β):∀(l:ZN),bJ f (l.map g)=bJ (λa=>f (g a)) l
 |[]=>rfl
 |a::r=>cb (f (g a)+ ·) (zF f g r)
theorem CP{α β:Type}(f:β->Nat)(g:α->WA):∀(l:ZN),bJ f (l.flatMap g)=bJ (λa=>bJ f (g a)) l
 |[]=>rfl
 |a::r=>by rw[iR,zG,CP f g r];rfl
theorem Ib{α:Type}(f g:ZdR):∀(l:ZN),bJ (λa=>f a+g a) l=bJ f l+bJ g l
 |[]=>rfl
 |a::r=>by show f a+g a+bJ _ r=f a+bJ f r+(g a+bJ g r);rw[Ib f g r];omega
theorem zE{α:Type}:∀(l:ZN),bJ (λ_=>0) l=0
 |[]=>rfl
 |a::r=>by show 0+bJ _ r=0;rw[zE r]
theorem Qq{α β:Type}(f:α->β->Nat)(m:WA):∀(l:ZN),bJ (λa=>bJ (f a) m) l=bJ (λb=>bJ (λa=>f a b) l) m
 |[]=>(zE m).symm
 |a::r=>by show bJ (f a) m+bJ _ r=bJ (λb=>f a b+bJ (λa=>f a b) r) m;rw[Qq f m r,Ib]
theorem Ia{α:Type}(f:ZdR)(p:Zdx):∀(l:ZN),bJ f (l.filter p)=bJ (λa=>if p a=true then f a else 0) l
 |[]=>rfl
 |a::r=>by
  rw[jf];show _=(if p a=true then f a else 0)+bJ _ r;rw[←Ia f p r];by_cases h:p a=true
  ·rw[af h,af h];rfl
  ·rw[ae h,ae h,Cb]
theorem adl{α:Type}(f:ZdR):∀(l:ZN) (n:Nat),l.foldl (λn a=>n+f a) n=n+bJ f l
 |[],n=>rfl
 |a::r,n=>by rw[vq,adl f r];show n+f a+bJ f r=n+(f a+bJ f r);omega
def fe:Za->(List Nat->Nat)->Nat
 |[],F=>F []
 |x::r,F=>fe r F+fe r λa=>F WC
theorem qI:∀{l:Za} {F G:Zb0},(∀a,a.Sublist l->F a=G a)->fe l F=fe l G
 |[],F,G,h=>h [] (afP _)
 |x::r,F,G,h=>by show fe r F+_=fe r G+_;rw[qI (G:=G) λa ha=>h a (ha.cons x),qI (F:=λa=>F WC) (G:=λa=>G WC) λa ha=>h WC (ha.cons_cons x)]
theorem Qp:∀(l:Za),fe l (λ_=>0)=0
 |[]=>rfl
 |x::r=>by show fe r _+fe r _=0;rw[Qp r]
def og(l:Za)(F:Zb0)(n:Nat):Nat:=bJ (λk=>bJ F (Wv l)) (List.range n)
theorem xt(l:Za)(F:Zb0)(n:Nat):og l F Wh=og l F n+bJ F (VU l):=by unfold og;rw[Cg,zG];rfl
theorem aba(x:Nat)(r:Za)(F:Zb0):∀n,og (x::r) F Wh=og r F Wh+og r (λa=>F WC) n
 |0=>by rw[xt,xt,nu,nu];rfl
 |n+1=>by rw[xt,aba x r F n,xt r F Wh,xt r (λa=>F WC) n];have e:choose Wh (x::r)=(VU r).map ZbL++choose Wh r:=rfl;rw[e,zG,zF];omega
theorem H_:∀(l:Za) (F:Zb0),bJ F (subsets l)=fe l F
 |[],F=>by show F []+0=F [];omega
 |x::r,F=>by
  have e:∀(l:Za) (F:Zb0),bJ F (subsets l)=og l F (l.length+1):=λl F=>by unfold subsets og;rw[CP]
  rw[e,bb,aba,xt r F ZiS,FX r ZiS (Cd _)];show og r F ZiS+0+og r _ ZiS=fe r F+fe r _;rw[←H_ r F,←H_ r,e,e,G4]
theorem ag8{U b:Za}(hs:b.Sublist U)(hn:U.Nodup)(G:Zb0):fe U (λa=>if(a.all λs=>Zc6)=true then G a else 0)=fe b G:=by
 induction hs generalizing G with
 |slnil=>rfl
 |cons x h ih=>
  rename_i b U;ext t;show fe U _+fe U _=fe b G;rw[ih h2 G,qI (F:=λa=>if((x::a).all λs=>Zc6)=true then G WC else 0) (G:=λ_=>0) λa ha=>?_,Qp,G4];rw[ae];rw[hZ,aQ];exact λe=>h1 (h.subset (bx.mp e.1))
 |cons_cons x h ih=>
  rename_i b U;ext t;show fe U _+fe U _=fe b G+fe b _;have key:∀a:List Nat,a.Sublist U->(a.all λs=>(x::b).contains s)=(a.all λs=>Zc6):=λa ha=>by
   rw[iS,dh,dh];refine⟨λq s hs=>?_,λq s hs=>?_⟩
   ·have:=q s hs;rw[Hh,h_]at this;rcases this with e|e
    ·exact absurd (ha.subset (eq_of_beq e▸hs)) h1
    ·exact e
   ·rw[Hh,h_];exact .inr (q s hs)
  rw[←ih h2 G,←ih h2 λa=>G WC];congr 1
  ·refine qI λa ha=>?_;rw[key a ha]
  ·refine qI λa ha=>?_;show(if((x::a).all λs=>(x::b).contains s)=true then _ else _)=_;rw[hZ,key a ha];have:(x::b).contains x=true:=by simp
   rw[this,fm]
def fR:Za->(List Nat->Za->Nat)->Nat
 |[],F=>F [] []
 |x::r,F=>fR r (λa b=>F a (x::b))+fR r λa b=>F WC b
theorem Ik{α:Type}(F:α->Za->Za->Nat)(l:ZN):∀(m:Za),fR m (λa b=>bJ (λz=>F z a b) l)=bJ (λz=>fR m (F z)) l
 |[]=>rfl
 |x::r=>by show fR r _+fR r _=bJ (λz=>fR r _+fR r _) l;rw[Ib,Ik (λz a b=>F z a (x::b)) l r,Ik (λz a b=>F z WC b) l r]
theorem QB{F G:Za->Za->Nat}(h:∀a b,F a b=G a b)(m:Za):fR m F=fR m G:=by rw[show F=G from funext λa=>funext λb=>h a b]
def more(σ:Nat->Za)(x s:Nat):Nat->Za:=λy=>if y=x then σ y++[s]else σ y
def kS(ok:Zbr)(ps:Za):Za->(Nat->Za)->Nat
 |[],σ=>if(ps.all λp=>Zjm)=true then 1 else 0
 |s::m,σ=>bJ (λx=>ZdO m Zfp) ps
theorem RA(ok:Zbr)(ps:Za):∀(m:Za) (σ τ:Nat->Za),(∀p∈ps,σ p=τ p)->ZdO m σ=ZdO m τ
 |[],σ,τ,h=>by
  unfold kS;have:(ps.all λp=>Zjm)=(ps.all λp=>ok p (τ p)):=by rw[iS,dh,dh];exact⟨λq p hp=>by rw[←h p hp];exact q p hp,λq p hp=>by rw[h p hp];exact q p hp⟩
  rw[this]
 |s::m,σ,τ,h=>by show bJ _ ps=bJ _ ps;refine lN λx hx=>RA ok ps m _ _ λp hp=>?_;unfold more;rw[h p hp]
theorem IL(ok:Zbr)(ps:Za)(p:Nat)(hp:p∉ps):∀(m:Za) (σ:Nat->Za),ZmO σ=fR m λa b=>if ok p (σ p++a)=true then ZdO b σ else 0
 |[],σ=>by
  show(if _ then 1 else 0)=(if ok p (σ p++[])=true then(if _ then 1 else 0)else 0);simp only[List.all_append,fc,aQ,hZ,List.all_nil,vG];by_cases h1:ok p (σ p)=true
  ·rw[af h1];by_cases h2:(ps.all λp=>Zjm)=true
   ·rw[af ⟨h2,h1⟩,af h2]
   ·rw[ae λq=>h2 q.1,ae h2]
  ·rw[ae h1,ae λq=>h1 q.2]
 |s::m,σ=>by
  show bJ (λx=>ZmO Zfp) (ps++[p])=fR m _+fR m _;rw[zG];congr 1
  ·rw[lN (g:=λx=>fR m λa b=>if ok p (σ p++a)=true then ZdO b Zfp else 0) λx hx=>by
    rw[IL ok ps p hp m];have e:Zfp p=σ p:=by unfold more;rw[ae λq:p=x=>hp (q▸hx)]
    rw[e]]
   rw[←Ik];refine QB (λa b=>?_) m;by_cases h:ok p (σ p++a)=true
   ·simp only[af h];rfl
   ·simp only[ae h];exact zE ps
  ·show ZmO (more σ p s)+0=_;rw[G4,IL ok ps p hp m];have e:more σ p s p=σ p++[s]:=by unfold more;rw[af rfl]
   rw[e];refine QB (λa b=>?_) m;rw[eC];show(if ok p (σ p++s::a)=true then _ else _)=_;rw[RA ok ps b (more σ p s) σ λq hq=>by unfold more;rw[ae λe:q=p=>hp (e▸hq)]]
def bits:Za->Nat
 |[]=>0
 |s::r=>2 ^ s ^^^ bits r
theorem u9(i:Nat):∀(l:Za),l.Nodup->(bits l).testBit i=decide (i∈l)
 |[],_=>by show Nat.testBit 0 i=_;rw[G2];simp
 |s::r,h=>by
  obtain⟨h1,h2⟩:=df.mp h;show(2 ^ s ^^^ bits r).testBit i=_;rw[OT,u9 i r h2,aeT];by_cases e:s=i
  ·subst e;simp[h1]
  ·have e':¬i=s:=λq=>Uz;simp[e,e']
theorem Of(K:Za->Nat->Nat):∀(b:Za),fR b (λa c=>K a (bits c))=fe b λa=>K a ZlW
 |[]=>rfl
 |s::m=>by
  show fR m (λa c=>K a (2 ^ s ^^^ bits c))+fR m (λa c=>K (s::a) (bits c))=fe m _+fe m _;rw[Of (λa z=>K a (2 ^ s ^^^ z)) m,Of (λa z=>K (s::a) z) m];congr 1
  ·refine qI λa _=>?_;show K a (2 ^ s ^^^ (bits m ^^^ bits a))=K a ((2 ^ s ^^^ bits m) ^^^ bits a);rw[aeS]
  ·refine qI λa _=>?_;show K (s::a) (bits m ^^^ bits a)=K (s::a) ((2 ^ s ^^^ bits m) ^^^ (2 ^ s ^^^ bits a));congr 1;have h0:2 ^ s ^^^ (2 ^ s ^^^ bits a)=bits a:=by rw[←aeS,Nat.xor_self,Nat.zero_xor]
   rw[Nat.xor_comm (2 ^ s) (bits m),aeS,h0]
theorem arB{a b:Za}(ha:a.Nodup)(hb:b.Nodup):(a.all λs=>Zc6)=true↔bits a&&& bits b=bits a:=by
 rw[dh];ext b
 ·intro h;refine Cf λi=>?_;rw[Cc,u9 i a ha,u9 i b hb];by_cases e:i∈a
  ·have:=bx.mp (h i e);simp[e,this]
  ·simp[e]
 ·intro h s hs;have:=cb (λz=>z.testBit s) h;simp only[Cc,u9 s a ha,u9 s b hb]at this;rw[bx];simpa[hs]using this
theorem Ol(g s m:Nat):(g&&& s=0/\g|||s=m)↔(s&&& m=s/\g=m ^^^ s):=by
 ext b
 ·rintro⟨h1,rfl⟩;have hb:∀i,¬(g.testBit i=true/\s.testBit i=true):=λi q=>by have:=ZtH;simp only[Cc,G2,q.1,q.2]at this;cases this
  refine Ztm
  ·rw[Cc,G3];cases g.testBit i<;>cases s.testBit i<;>rfl
  ·rw[OT,G3];have:=hb i;revert this;cases g.testBit i<;>cases s.testBit i<;>simp
 ·rintro⟨h1,rfl⟩;have hb:∀i,s.testBit i=true->m.testBit i=true:=λi q=>by have:=ZtH;simp only[Cc,q,fm]at this;exact this
  refine Ztm
  ·rw[Cc,OT,G2];have:=hb i;revert this;cases m.testBit i<;>cases s.testBit i<;>simp
  ·rw[G3,OT];have:=hb i;revert this;cases m.testBit i<;>cases s.testBit i<;>simp
abbrev dz:=ZX
def dH(k:dz)(m:Nat):Nat:=bJ (λz=>if z.1=m then z.2 else 0) k
def jH:dz->Nat->Nat->dz
 |[],m,n=>[(m,n)]
 |z::r,m,n=>if z.1=m then(m,z.2+n)::r else z::jH r m n
theorem ac6(m n m':Nat):∀(k:dz),dH (jH k m n) m'=dH k m'+(if m=m' then n else 0)
 |[]=>by show(if m=m' then n else 0)+0=0+_;omega
 |z::r=>by
  unfold jH;have ih:=ac6 m n m' r;by_cases h:z.1=m
  ·rw[af h];show(if m=m' then z.2+n else 0)+dH r m'=(if z.1=m' then z.2 else 0)+dH r m'+_;rw[h];split<;>omega
  ·rw[ae h];show(if z.1=m' then z.2 else 0)+dH Zjp m'=(if z.1=m' then z.2 else 0)+dH r m'+_;rw[ih];omega
theorem aez(m n:Nat):∀(k:dz),(jH k m n).map Zh=if m∈k.map Zh then k.map Zh else k.map Zh++[m]
 |[]=>rfl
 |z::r=>by
  unfold jH;by_cases h:z.1=m
  ·rw[af h];rw[af (by rw[cw,h];exact aY),cw,cw,h]
  ·rw[ae h,cw,aez m n r,cw];by_cases h2:m∈r.map Zh
   ·rw[af h2,af (ZD h2)]
   ·rw[ae h2,ae λq=>(aJ.mp q).elim (λe=>h e.symm) h2];rfl
def jg(f:dz)(g:Xr)(s:Nat):dz:=if g.1&&& s=0 then jH f (g.1|||s) g.2 else f
def xi(k:dz)(mL:Za):dz:=k.foldl (λf g=>Znu) []
theorem anV(f:dz)(g:Xr)(s m:Nat):dH (jg f g s) m=dH f m+(if g.1&&& s=0/\g.1|||s=m then g.2 else 0):=by
 unfold jg;by_cases h:g.1&&& s=0
 ·rw[af h,ac6];simp[h]
 ·rw[ae h,ae λq=>h q.1];rfl
theorem ac4(g:Xr)(m:Nat):∀(mL:Za) (f:dz),dH Znu m=dH f m+Zo2 mL
 |[],f=>rfl
 |s::r,f=>by rw[vq,ac4 g m r,anV,Nat.add_assoc];rfl
theorem ac5(mL:Za)(m:Nat):∀(k f:dz),dH (k.foldl (λf g=>Znu) f) m=dH f m+bJ (λg=>Zo2 mL) k
 |[],f=>rfl
 |g::r,f=>by rw[vq,ac5 mL m r,ac4,Nat.add_assoc];rfl
theorem anW(k:dz)(mL:Za)(m:Nat):dH (xi k mL) m=bJ (λs=>if s&&& m=s then dH k (m ^^^ s)else 0) mL:=by
 unfold xi;rw[ac5,Qq];show 0+_=_;rw[Cb];refine lN λs _=>?_;by_cases h:s&&& m=s
 ·rw[af h];refine lN λg _=>?_;by_cases e:g.1=m ^^^ s
  ·rw[af e,af ((Ol _ _ _).mpr ⟨h,e⟩)]
  ·rw[ae e,ae λq=>e ((Ol _ _ _).mp q).2]
 ·rw[ae h];rw[lN (g:=λ_=>0) λg _=>by rw[ae λq=>h ((Ol _ _ _).mp q).1],zE]
def nothing:Nat->Za:=λ_=>[]
def Tells(ok:Zbr)(U:Za)(qs:Za)(k:dz):Prop:=∀b,b.Sublist U->dH k (bits b)=kS ok qs b nothing
theorem agX(ok:Zbr)(U:Za)(hn:U.Nodup):Tells ok U [] [(0,1)]:=λb hb=>by
 show(if 0=bits b then 1 else 0)+0=_;cases b with
 |nil=>rfl
 |cons s r=>
  have h:¬0=bits Za5:=λe=>by have:=cb (λz=>z.testBit s) e;simp only[G2,u9 s _ (hb.nodup hn)]at this;simp at this
  rw[ae h];rfl
theorem agY{ok:Zbr}{U qs:Za}{k:dz}{p:Nat}(hn:U.Nodup)(hp:p∉qs)(h:Tells ok U qs k):Tells ok U (qs++[p]) (xi k (((subsets U).filter (ok p)).map bits)):=λb hb=>by
 have hbn:=hb.nodup hn;rw[anW,IL ok qs p hp,zF,Ia,H_];have e1:fe U (λa=>if ok p a=true then(if bits a&&& bits b=bits a then dH k ZlW else 0)else 0)=fe U (λa=>if(a.all λs=>Zc6)=true then(if ok p a=true then dH k ZlW else 0)else 0):=by
  refine qI λa ha=>?_;have hw:=arB (ha.nodup hn) hbn;by_cases h1:ok p a=true
  ·by_cases h2:(a.all λs=>Zc6)=true
   ·rw[af h1,af h1,af h2,af (hw.mp h2)]
   ·rw[af h1,af h1,ae h2,ae λq=>h2 (hw.mpr q)]
  ·rw[ae h1,ae h1];split<;>rfl
 rw[e1,ag8 hb hn,←Of (λa z=>if ok p a=true then dH k z else 0)];have sub:∀(b:Za) (F G:Za->Za->Nat),(∀a c,c.Sublist b->F a c=G a c)->fR b F=fR b G:=by
  intro b
  induction b with
  |nil=>intro F G h;exact h [] [] (afP _)
  |cons x r ih=>
   intro F G h;show fR r _+fR r _=fR r _+fR r _;rw[ih (λa b=>F a (x::b)) (λa b=>G a (x::b)) λa c hc=>h a (x::c) (hc.cons_cons x),ih (λa b=>F WC b) (λa b=>G WC b) λa c hc=>h WC c (hc.cons x)]
 refine sub b _ _ λa c hc=>?_;show(if ok p a=true then dH k (bits c)else 0)=if ok p ([]++a)=true then kS ok qs c nothing else 0
 rw[mx,h c (hc.trans hb)]
end
section
open Vbwbal (Plan Bytes Choice signer load goesWith fits unsigned complete canEnd completion choose subsets countWays)
structure af5(P:Plan)(ab:Za)(c w:Choice):Prop where
 yL:∀z∈w,z.2<P.persons.length/\V7 z.1 z.2=true/\W8 c z.1 z.2=true
 unlike:∀s t,(s,t)∈P.unlike->∀x,XD s=some x->XD t≠some x
 alike:∀s t,(s,t)∈P.alike->∀x y,XD s=some x->XD t=some y->x=y
 room:∀x,YA x+load w x<=YH x
theorem P7(P:Plan)(ab:Za)(aK:Zbc):∀(w c:Choice),(w.map Zh).Nodup ->(∀z∈w,ZS z.1=none)->(∀x,YA x<=YH x)->(WW c↔af5 P ab c w)
 |[],c,_,_,hl=>by refine⟨λ_=>⟨λz hz=>Vd,λs t _ x h=>Vf,λs t _ x y h=>Vf,λx=>hl x⟩,λ_=>trivial⟩
 |(s,x)::w,c,hn,hs,hl=>by
  obtain⟨kG,fH⟩:=Zb9;have fX:ZS s=none:=hs (s,x) aY;have rB:∀z∈w,z.1≠s:=λz hz e=>kG (by show s∈w.map Zh;rw[←e];exact Zbj)
  have uu:∀z∈w,signer Ym z.1=none:=λz hz=>by rw[nR fX,ae (rB z hz)];exact hs z Zgv
  have ih:=λuz=>P7 P ab aK w Ym fH uu uz;have cX:YA x<YH x->∀y,load Ym y<=YH y:=λh y=>by
   rw[rh];have:=hl y;by_cases e:x=y
   ·ext x;omega
   ·rw[ae e];omega
  ext b
  ·rintro⟨⟨h1,h2,h3⟩,hv⟩;have hx:YA x<YH x:=((ZdP x).mp h3).2.2;have q:=(ih (cX hx)).mp hv;have gs:∀z∈w,W8 c z.1 z.2=true/\(z.1∈Xy s->z.2=x)/\(z.1∈Y8 s∨Xk x-1=0->z.2≠x):=λz hz=>(Fy fX (rB z hz) hx).mp (q.yL z hz).2.2;refine Zov
   ·rcases aJ.mp hz with e|hz
    ·rw[e];exact⟨h1,h2,h3⟩
    ·exact⟨(q.yL z hz).1,(q.yL z hz).2.1,(gs z hz).1⟩
   ·rw[iV]at ha hb;by_cases ea:s=a
    ·rw[af ea]at ha;by_cases eb:s=b
     ·exact aK _ (.inl dc) (ea.symm.trans eb)
     ·rw[ae eb]at hb;have:=(gs _ (nS hb)).2.2 (.inl Zqb);exact this (bY ha).symm
    ·rw[ae ea]at ha;by_cases eb:s=b
     ·rw[af eb]at hb;have:=(gs _ (nS ha)).2.2 (.inl Zqc);exact this (bY hb).symm
     ·rw[ae eb]at hb;exact q.unlike a b dc y ha hb
   ·rw[iV]at ha hb;by_cases ea:s=a
    ·rw[af ea]at ha;by_cases eb:s=b
     ·exact absurd (ea.symm.trans eb) (aK _ (.inr dc))
     ·rw[ae eb]at hb;have:=(gs _ (nS hb)).2.1 Zqb;exact((bY ha).symm.trans this.symm)
    ·rw[ae ea]at ha;by_cases eb:s=b
     ·rw[af eb]at hb;have:=(gs _ (nS ha)).2.1 Zqc;exact this.trans (bY hb)
     ·rw[ae eb]at hb;exact q.alike a b dc y y' ha hb
   ·have:=q.room y;rw[rh]at this;rw[tX];show YA y+((if x=y then 1 else 0)+load w y)<=_;omega
  ·intro q;have h:=q.yL (s,x) aY;have hx:YA x<YH x:=((ZdP x).mp h.2.2).2.2;refine⟨h,(ih (cX hx)).mpr Zov⟩
   ·have br:=q.yL z Zgv;have sz:signer ((s,x)::w) z.1=some z.2:=by rw[iV,ae λe=>rB z hz e.symm];exact wA fH hz
    have ss:signer ((s,x)::w) s=some x:=by rw[iV,af rfl]
    refine⟨br.1,br.2.1,(Fy fX (rB z hz) hx).mpr ⟨br.2.2,λhp=>?_,λhp e=>?_⟩⟩
    ·rcases gC.mp hp with hp|hp
     ·exact(q.alike _ _ hp _ _ ss sz).symm
     ·exact q.alike _ _ hp _ _ sz ss
    ·rcases hp with hp|hp
     ·rcases gC.mp hp with hp|hp
      ·exact q.unlike _ _ hp _ ss (by rw[sz,e])
      ·exact q.unlike _ _ hp _ (by rw[sz,e]) ss
     ·have hr:=q.room x;rw[tX,af rfl]at hr;have acu:0<load w x:=by unfold load;exact List.length_pos_of_mem (bD.mpr ⟨hz,Zdb⟩)
      unfold eD at hp;omega
   ·have e1:s≠a:=λe=>rB _ (nS ha) e.symm;have e2:s≠b:=λe=>rB _ (nS hb) e.symm;exact q.unlike a b dc y (by rw[iV,ae e1];exact ha) (by rw[iV,ae e2];exact hb)
   ·have e1:s≠a:=λe=>rB _ (nS ha) e.symm;have e2:s≠b:=λe=>rB _ (nS hb) e.symm;exact q.alike a b dc y y' (by rw[iV,ae e1];exact ha) (by rw[iV,ae e2];exact hb)
   ·have:=q.room y;rw[tX]at this;have this:YA y+((if x=y then 1 else 0)+load w y)<=YH y:=this;rw[rh];omega
def asg(ps:Za):Za->List Choice
 |[]=>[[]]
 |s::m=>ps.flatMap λx=>(asg ps m).map λw=>(s,x)::w
theorem Oj(ps:Za):∀(l:Za) (w:Choice),w∈asg ps l->w.map Zh=l/\∀z∈w,z.2∈ps
 |[],w,h=>by rw[bo.mp h];exact⟨rfl,λz hz=>Vd⟩
 |s::m,w,h=>by
  obtain⟨x,hx,h⟩:=vo.mp h;obtain⟨v,hv,rfl⟩:=UO;obtain⟨h1,h2⟩:=Oj ps m v hv;refine⟨by rw[cw,h1],λz hz=>?_⟩;rcases aJ.mp hz with e|hz
  ·rw[e];exact hx
  ·exact h2 z hz
open Classical in
noncomputable def ind(p:Prop):Nat:=if p then 1 else 0
theorem Lj{p q:Prop}(h:p↔q):ind p=ind q:=by rw[propext h]
theorem ab9{p:Prop}(h:p):ind p=1:=by unfold ind;rw[af h]
theorem aca{p:Prop}(h:¬p):ind p=0:=by unfold ind;rw[ae h]
def kW(P:Plan)(ab:Za):Za:=(List.range P.persons.length).filter λx=>!(ab.contains x)
theorem adX(P:Plan)(ab:Za):∀(l:Za) (c:Choice),ZcU l c=bJ (λw=>ind (WW c)) (asg Zds l)
 |[],c=>by show 1=ind (iO P ab [] c)+0;rw[ab9 (show iO P ab [] c from trivial)]
 |s::r,c=>by
  have e1:ZcU Za5 c=(List.range P.persons.length).foldl (λn x=>n+(if(YG x&&YT x)=true then ZcU r Ym else 0)) 0:=by
   show(List.range P.persons.length).foldl _ 0=_;congr 1;funext n x;by_cases h:(YG x&&YT x)=true
   ·rw[af h,af h]
   ·rw[ae h,ae h];rfl
  rw[e1,adl,Cb];show _=bJ _ ((kW P ab).flatMap λx=>(asg Zds r).map λw=>(s,x)::w);rw[CP]
  conv=>rhs;arg 2;unfold kW
  rw[Ia];refine lN λx hx=>?_;rw[zF];have hxn:=dS.mp hx;by_cases h:(YG x&&YT x)=true
  ·have h':=h;rw[aQ]at h';rw[af h,af (by rw[Nr h'.1];rfl),adX P ab r];refine lN λw _=>Lj ?_;exact⟨λq=>⟨⟨hxn,h'.1,h'.2⟩,q⟩,λq=>q.2⟩
  ·rw[ae h];rw[lN (g:=λ_=>0) λw _=>aca λq=>h (by rw[q.1.2.1,q.1.2.2];rfl),zE];split<;>rfl
def pj(w:Choice)(p:Nat):Za:=(w.filter λz=>z.2==p).map Zh
theorem RB(ok:Zbr)(ps:Za):∀(l:Za) (σ:Nat->Za),ZdO l σ=bJ (λw=>ind (∀p∈ps,ok p (σ p++pj w p)=true)) (asg ps l)
 |[],σ=>by
  show(if _ then 1 else 0)=ind _+0;by_cases h:(ps.all λp=>Zjm)=true
  ·rw[af h,ab9 λp hp=>?_];show ok p (σ p++[])=true;rw[fc];exact dh.mp h p hp
  ·rw[ae h,aca λq=>h (dh.mpr λp hp=>?_)];have:=q p hp;show ok p (σ p)=true;rw[←fc (σ p)];ext d
 |s::m,σ=>by
  show bJ _ ps=bJ _ (ps.flatMap λx=>(asg ps m).map λw=>(s,x)::w);rw[CP];refine lN λx hx=>?_;rw[RB ok ps m,zF];refine lN λw _=>Lj ?_;have e:∀p,Zfp p++pj w p=σ p++pj ((s,x)::w) p:=λp=>by
   unfold more pj;rw[jf];by_cases h:p=x
   ·subst h;rw[af rfl,af Zf,eC];rfl
   ·have h':¬((s,x).2==p)=true:=by show¬(x==p)=true;simpa using λq=>h q.symm
    rw[ae h,ae h']
  exact⟨λq p hp=>by rw[←e];exact q p hp,λq p hp=>by rw[e];exact q p hp⟩
def jV(ps:ZX)(U:Za):ZX:=ps.filter λy=>U.contains y.1&&U.contains y.2
def mJ(P:Plan)(ab:Za)(c:Choice)(p:Nat)(sh:Za):Bool:=
 decide ((sh.length:Int)<=(cy P p:Int)-(load c p:Int))&&((sh.all λs=>(ZJ s).contains p)&&
  (!((jV P.unlike (unsigned P c)).any λy=>sh.contains y.1&&sh.contains y.2)&&((jV P.alike (unsigned P c)).all λy=>sh.contains y.1==sh.contains y.2)))
theorem Ea{ps:ZX}{U:Za}{y:Xr}:y∈jV ps U↔y∈ps/\y.1∈U/\y.2∈U:=by unfold jV;rw[bD,aQ,bx,bx]
theorem Qi(P:Plan)(ab:Za)(c:Choice)(p:Nat)(sh:Za):UJ p sh=true↔((sh.length:Int)<=(cy P p:Int)-(load c p:Int))/\(∀s∈sh,p∈ZJ s)/\
  (∀y∈P.unlike,y.1∈Z9 c->y.2∈Z9 c->¬(y.1∈sh/\y.2∈sh))/\(∀y∈P.alike,y.1∈Z9 c->y.2∈Z9 c->(y.1∈sh↔y.2∈sh)):=by
 unfold mJ;rw[aQ,aQ,aQ,bX,dh,dh,vF,afO];refine F6 di (F6 ?_ (F6 ?_ ?_))
 ·exact⟨λh s hs=>bx.mp (h s hs),λh s hs=>bx.mpr (h s hs)⟩
 ·ext b
  ·intro h y hy h1 h2 q;refine Zr6 ?_;rw[aQ,bx,bx];exact q
  ·intro h y hy q;obtain⟨h0,h1,h2⟩:=Ea.mp hy;rw[aQ,bx,bx]at q;exact h y h0 h1 h2 q
 ·ext b
  ·intro h y hy h1 h2;have:=eq_of_beq Zr6;rw[←bx,←bx,this]
  ·intro h y hy;obtain⟨h0,h1,h2⟩:=Ea.mp hy;have:=h y h0 h1 h2;rw[oK,iS,bx,bx];ext d
theorem nT{w:Choice}{p s:Nat}:s∈pj w p↔(s,p)∈w:=by
 unfold pj;rw[aO];ext b
 ·rintro⟨z,hz,rfl⟩;obtain⟨h1,h2⟩:=bD.mp hz;rw[←eq_of_beq h2];exact h1
 ·intro h;exact⟨(s,p),bD.mpr ⟨h,Zf⟩,rfl⟩
theorem ajX(P:Plan)(ab:Za)(c w:Choice)(hl:ZeI)(hw:w∈asg Zds Z8):af5 P ab c w↔∀p∈kW P ab,UJ p (pj w p)=true:=by
 obtain⟨hk,m8⟩:=Oj _ _ _ hw;have hn:(w.map Zh).Nodup :=by rw[hk];exact Vt
 have aa6:∀s x,x∈ZJ s↔x<P.persons.length/\YG x=true/\YT x=true:=λs x=>by unfold bR;rw[bD,dS,aQ]
 have sg:∀s x,XD s=some x↔(s,x)∈w:=λs x=>⟨nS,wA hn⟩;have ex:∀s,s∈Z9 c->∃x,(s,x)∈w:=λs hs=>by rw[←hk]at hs;obtain⟨z,hz,rfl⟩:=aO.mp hs;exact⟨z.2,hz⟩
 have ky:∀s x,(s,x)∈w->s∈Z9 c:=λs x h=>by rw[←hk];exact aO.mpr ⟨_,h,rfl⟩
 have un:∀s x y,(s,x)∈w->(s,y)∈w->x=y:=λs x y h1 h2=>by have e1:=(sg s x).mpr h1;rw[(sg s y).mpr h2]at e1;exact(bY e1).symm
 have len:∀x,(pj w x).length =load w x:=λx=>by unfold pj load;rw[aq]
 ext b
 ·intro q p hp;refine(Qi P ab c p _).mpr ⟨?_,λs hs=>(aa6 s p).mpr (q.yL _ (nT.mp hs)),λy hy h1 h2 h=>?_,λy hy h1 h2=>?_⟩
  ·rw[len];have:=q.room p;omega
  ·exact q.unlike y.1 y.2 hy p ((sg _ _).mpr (nT.mp h.1)) ((sg _ _).mpr (nT.mp h.2))
  ·obtain⟨x1,e1⟩:=ex _ h1;obtain⟨x2,e2⟩:=ex _ h2;have exy:=q.alike y.1 y.2 hy x1 x2 ((sg _ _).mpr e1) ((sg _ _).mpr e2);rw[nT,nT];ext b
   ·intro h;rw[un _ _ _ h e1,exy];exact e2
   ·intro h;rw[un _ _ _ h e2,←exy];exact e1
 ·intro q;have q':=λp hp=>(Qi P ab c p _).mp (q p hp);refine⟨λz hz=>?_,λs t aT x h1 h2=>?_,λs t aT x y h1 h2=>?_,λx=>?_⟩
  ·exact(aa6 z.1 z.2).mp ((q' z.2 (m8 z hz)).2.1 z.1 (nT.mpr hz))
  ·ext cN;exact(q' x (m8 _ m1)).2.2.1 (s,t) aT (ky _ _ m1) (ky _ _ m2) ⟨nT.mpr m1,nT.mpr m2⟩
  ·ext cN;have:=((q' x (m8 _ m1)).2.2.2 (s,t) aT (ky _ _ m1) (ky _ _ m2)).mp (nT.mpr m1);exact un _ _ _ (nT.mp this) m2
  ·by_cases hx:x∈kW P ab
   ·have:=(q' x hx).1;rw[len]at this;omega
   ·have h0:load w x=0:=by unfold load;rw[Cn,List.filter_eq_nil_iff];intro z hz e;exact hx (eq_of_beq e▸m8 z hz)
    rw[h0];exact hl x
theorem aqz(P:Plan)(ab:Za)(c:Choice)(aK:Zbc)(hl:ZeI):
  countWays P ab Z8 c=kS UJ Zds Z8 nothing:=by
 rw[adX,RB];refine lN λw hw=>Lj ?_;obtain⟨hk,m8⟩:=Oj _ _ _ hw;have hn:(w.map Zh).Nodup :=by rw[hk];exact Vt
 rw[P7 P ab aK w c hn (λz hz=>(xp.mp (by rw[←hk];exact Zbj)).2) hl,ajX P ab c w hl hw];exact di
theorem aqy(P:Plan)(ab:Za)(c:Choice)(aK:Zbc)(hl:ZeI){k:dz}(h:Tells UJ Z8 Zds k):
  dH k (bits Z8)=ZcU Z8 c:=by
 rw[aqz P ab c aK hl];exact h _ (afP _)
theorem aiJ{m s:Nat}:m<128->s<7->m.testBit s=false->m+2 ^ s=m ^^^ 2 ^ s/\m ^^^ 2 ^ s<128:=by
 have:∀m<128,∀s<7,m.testBit s=false->m+2 ^ s=m ^^^ 2 ^ s/\m ^^^ 2 ^ s<128:=by decide+kernel
 exact λa b=>this m a s b
theorem Og:∀(l:Za),l.Nodup->(∀s∈l,s<7)->bits l<128/\bits l=Znq l
 |[],_,_=>⟨Zj,rfl⟩
 |s::r,hn,h=>by
  ext t;obtain⟨q1,q2⟩:=Og r h2 λt ht=>h t (ZD ht);have hb:(bits r).testBit s=false:=by rw[u9 s r h2];simpa using h1
  obtain⟨e1,e2⟩:=aiJ q1 (h s aY) hb;show 2 ^ s ^^^ bits r<128/\2 ^ s ^^^ bits r=2 ^ s+Znq r;rw[Nat.xor_comm,←q2];exact⟨e2,by rw[←e1];omega⟩
theorem arz{a b:Nat}(ha:a<128)(hb:b<128):a|||b<128:=Nat.or_lt_two_pow (n:=7) ha hb
end
section
open PyVbwbal (shape whole)
theorem agn(c:Uw):whole c=c:=by unfold whole;split<;>rfl
def NC:Za:=[0,0,2,2,0,0,0,1,2,1,1,2,0,0,0]
theorem ahB{p:Int}{n k:Nat}(h:shape p=some (n,k)):∃m:Nat,p=(m:Int)/\m<15/\NC[m]? =some n/\((k=1/\(m=0∨m=8))∨(k=0/\m≠0/\m≠8)):=by
 unfold shape at h;by_cases h0:p=0
 ·rw[af h0]at h;cases h
  exact⟨0,h0,Zj,rfl,Zj⟩
 rw[ae h0]at h;by_cases h1:p=1
 ·ext aB
  exact⟨1,h1,Zj,rfl,Zj⟩
 ext G;by_cases h2:p=2
 ·ext aC
  exact⟨2,h2,Zj,rfl,Zj⟩
 rw[ae h2]at h;by_cases h3:p=3
 ·ext aD
  exact⟨3,h3,Zj,rfl,Zj⟩
 rw[ae h3]at h;by_cases h4:p=4
 ·rw[af h4]at h;cases h
  exact⟨4,h4,Zj,rfl,Zj⟩
 rw[ae h4]at h;by_cases h5:p=5
 ·rw[af h5]at h;cases h
  exact⟨5,h5,Zj,rfl,Zj⟩
 rw[ae h5]at h;by_cases h6:p=6
 ·rw[af h6]at h;cases h
  exact⟨6,h6,Zj,rfl,Zj⟩
 rw[ae h6]at h;by_cases h7:p=7
 ·rw[af h7]at h;cases h
  exact⟨7,h7,Zj,rfl,Zj⟩
 rw[ae h7]at h;by_cases h8:p=8
 ·rw[af h8]at h;cases h
  exact⟨8,h8,Zj,rfl,Zj⟩
 rw[ae h8]at h;by_cases h9:p=9
 ·rw[af h9]at h;cases h
  exact⟨9,h9,Zj,rfl,Zj⟩
 rw[ae h9]at h;by_cases Mr:p=10
 ·rw[af Mr]at h;cases h
  exact⟨10,Mr,Zj,rfl,Zj⟩
 rw[ae Mr]at h;by_cases Mq:p=11
 ·rw[af Mq]at h;cases h
  exact⟨11,Mq,Zj,rfl,Zj⟩
 rw[ae Mq]at h;by_cases Mp:p=12
 ·rw[af Mp]at h;cases h
  exact⟨12,Mp,Zj,rfl,Zj⟩
 rw[ae Mp]at h;by_cases Mo:p=13
 ·rw[af Mo]at h;cases h
  exact⟨13,Mo,Zj,rfl,Zj⟩
 rw[ae Mo]at h;by_cases Mn:p=14
 ·rw[af Mn]at h;cases h
  exact⟨14,Mn,Zj,rfl,Zj⟩
 rw[ae Mn]at h;cases h
structure Ho(l:ZK)(c:Uw)(t:ZK)(m n:Nat)(nums text:ZK)(places:Nat):Prop where
 head:l[0]? =some (m:Int)
 lt:m<15
 cnt:NC[m]? =some n
 akB:nums=(l.drop 1).take n
 aaN:nums.length=n
 row:(m=0∨m=8)->∃k:Nat,l[1+n]? =some (k:Int)/\text=(l.drop (1+n+1)).take k/\text.length=k/\places=1+n+1+k/\c=[(m:Int)::nums,text]
 bare:m≠0->m≠8->text=[]/\places=1+n/\c=[(m:Int)::nums]
 rest:t=l.drop places
 pos:0<places
 le:places<=l.length
theorem ahO{l x s:ZK}(h:PyFlat.row l=some (x,s)):∃k:Nat,l[0]? =some (k:Int)/\x=(l.drop 1).take k/\x.length=k/\s=l.drop (1+k)/\1+k<=l.length:=by
 cases l with
 |nil=>cases h
 |cons n r=>
  have h:(if 0<=n/\n.toNat<=r.length then some (r.take n.toNat,r.drop n.toNat)else none)=some (x,s):=h;by_cases hc:0<=n/\n.toNat<=r.length
  ·rw[af hc]at h;have e:=bY h;have e1:x=r.take n.toNat:=(ZfG e).symm;have e2:s=r.drop n.toNat:=(ZfH e).symm;refine⟨n.toNat,by rw[mC hc.1];rfl,e1,by rw[e1,eY];omega,?_,Znr⟩;rw[e2,G5];rfl
  ·rw[ae hc]at h;cases h
theorem arc{l:ZK}{c:Uw}{t:ZK}(h:Zmz l=some (c,t)):∃m n nums text places,Zmx text places:=by
 cases l with
 |nil=>cases h
 |cons p r=>
  have h:(match shape p with |none=>none|some (n,k)=>if r.length<n then none else match PyFlat.rows k ZbW with |none=>none|some (xs,t)=>Zs2)=some (c,t):=h;cases hs:shape p with
  |none=>
   rw[hs]at h;cases h
  |some nk=>
   obtain⟨n,k⟩:=nk;rw[hs]at h;have h:(if r.length<n then none else match PyFlat.rows k ZbW with |none=>none|some (xs,t)=>Zs2)=some (c,t):=h;by_cases hl:r.length<n
   ·rw[af hl]at h;cases h
   rw[ae hl]at h;obtain⟨m,rfl,hm,hn,hk⟩:=ahB hs;have hlen:(r.take n).length =n:=by rw[eY];omega
   rcases hk with⟨rfl,hk⟩|⟨rfl,gT,uA⟩
   ·cases hr:PyFlat.row ZbW with
    |none=>
     have:PyFlat.rows 1 ZbW=none:=by unfold PyFlat.rows;rw[hr]
     rw[this]at h;cases h
    |some xs=>
     obtain⟨x,s⟩:=xs;have:PyFlat.rows 1 ZbW=some ([x],s):=by unfold PyFlat.rows;rw[hr];rfl
     rw[this]at h;have e:=bY h;have ec:c=[(m:Int)::r.take n,x]:=(ZfG e).symm;have et:t=s:=(ZfH e).symm;obtain⟨q,q1,q2,q3,q4,q5⟩:=ahO hr;rw[mz]at q5;refine⟨m,n,r.take n,x,1+n+1+q,rfl,hm,hn,rfl,hlen,λ_=>⟨q,?_,?_,q3,rfl,ec⟩,λh1 h2=>?_,?_,Zb,Znr⟩
     ·rw[afz]at q1;rw[G5 1 n,afB];exact q1
     ·rw[q2,zd,show 1+n+1=(n+1)+1 by omega,afJ]
     ·rcases hk with e|e
      ·exact ZdK h1
      ·exact ZdK h2
     ·rw[et,q4,zd,show 1+n+1+q=(n+(1+q))+1 by omega,afJ]
   ·have:PyFlat.rows 0 ZbW=some ([],ZbW):=rfl;rw[this]at h;have e:=bY h;have ec:c=[(m:Int)::r.take n]:=(ZfG e).symm;have et:t=r.drop n:=(ZfH e).symm;refine⟨m,n,r.take n,[],1+n,rfl,hm,hn,rfl,hlen,λq=>?_,λ_ _=>⟨rfl,rfl,ec⟩,?_,Zb,Znr⟩
    ·rcases q with q|q
     ·exact absurd q gT
     ·exact absurd q uA
    ·rw[et,G5 1 n,afJ]
def Left(l:ZK)(cs:ZdG):Prop:=∃f,Zmb f l=some cs
theorem aly{cs:ZdG}(h:Left [] cs):cs=[]:=by obtain⟨f,h⟩:=h;cases f<;>exact(bY h).symm
theorem alz{l:ZK}{cs:ZdG}(h:Left l cs)(hl:l≠[]):∃c t r,Zmz l=some (c,t)/\cs=c::r/\Left t r:=by
 obtain⟨f,h⟩:=h;cases l with
 |nil=>exact absurd rfl hl
 |cons p q=>
  cases f with
  |zero=>cases h
  |succ f=>
   have h:(match PyFlat.call shape (p::q)with |none=>none|some (c,t)=>match PyFlat.calls shape f t with |none=>none|some cs=>some (c::cs))=some cs:=h;cases hc:Zmz (p::q)with
   |none=>
    rw[hc]at h;cases h
   |some ct=>
    obtain⟨c,t⟩:=ct;rw[hc]at h;have h:(match PyFlat.calls shape f t with |none=>none|some cs=>some (c::cs))=some cs:=h;cases hr:Zmb f t with
    |none=>
     rw[hr]at h;cases h
    |some r=>
     rw[hr]at h;exact⟨c,t,r,rfl,(bY h).symm,f,hr⟩
theorem aq7{l:ZK}{cs:ZdG}(h:PyVbwbal.calls l=some cs):Left l cs:=by
 unfold PyVbwbal.calls at h;cases hc:Zmb l.length l with
 |none=>
  rw[hc]at h;cases h
 |some ds=>
  rw[hc]at h;have e:=bY h;rw[gv (g:=id) (λc _=>agn c),G_]at e;exact⟨_,by rw[hc,e]⟩
end
end
section
open PySem PySem.Spec PyProof.Rows L2
open Vbwbal (Plan Bytes Choice)
section
def bO(m:Nat):Za:=(List.range 8).filter λi=>m.testBit i
def cH(m:Nat)(led:Bool):SetTable:={mask:=if(bO m).length <=4 then 7 else 31,place:=(bO m).toArray,dummies:=#[],finger:=0,led:=led,moves:=if(bO m).length <=4 then 0 else 1,plain:=true}
def tu(m x:Nat):Nat:=(bO m).countP λi=>decide (i<x)
def fW(m x:Nat)(led:Bool):SetTable:={cH m led with place:=(bO (m|||1<<<x)).toArray}
def gY(m x:Nat)(led:Bool):Bool:=
 m.testBit x||(decide ((cH m led).freeSlot (x:Int)=some (x,false))&&decide ((cH m led).put x=(V4 led,tu m x))&&(V4 led).fits Ua&&
  (if(V4 led).tooFull then decide ((V4 led).relaid ((bO (m|||1<<<x)).map λ(i:Nat)=>(i:Int)).toArray (SetTable.grown Ua)=some ZqD)
   else decide (fW m x led=cH (m|||1<<<x) led))&&(cH m led).fits (bO m).length &&decide (bO (m|||1<<<x)=(bO m).insertIdx (tu m x) x)&&decide ((bO (m|||1<<<x)).length =(bO m).length +1))
theorem aot(led:Bool):SetTable.fresh 0 0 led=cH 0 led:=by cases led<;>decide
theorem aq6:((List.range 32).all λm=>(List.range 8).all λx=>gY (0+m) x true)=true:=by decide+kernel
theorem aq5:((List.range 32).all λm=>(List.range 8).all λx=>gY (32+m) x true)=true:=by decide+kernel
theorem aq4:((List.range 32).all λm=>(List.range 8).all λx=>gY (64+m) x true)=true:=by decide+kernel
theorem aq3:((List.range 32).all λm=>(List.range 8).all λx=>gY (96+m) x true)=true:=by decide+kernel
theorem aq2:((List.range 32).all λm=>(List.range 8).all λx=>gY (128+m) x true)=true:=by decide+kernel
theorem aq1:((List.range 32).all λm=>(List.range 8).all λx=>gY (160+m) x true)=true:=by decide+kernel
theorem aq0:((List.range 32).all λm=>(List.range 8).all λx=>gY (192+m) x true)=true:=by decide+kernel
theorem aqZ:((List.range 32).all λm=>(List.range 8).all λx=>gY (224+m) x true)=true:=by decide+kernel
theorem aqX:((List.range 32).all λm=>(List.range 8).all λx=>gY (0+m) x false)=true:=by decide+kernel
theorem aqW:((List.range 32).all λm=>(List.range 8).all λx=>gY (32+m) x false)=true:=by decide+kernel
theorem aqV:((List.range 32).all λm=>(List.range 8).all λx=>gY (64+m) x false)=true:=by decide+kernel
theorem aqU:((List.range 32).all λm=>(List.range 8).all λx=>gY (96+m) x false)=true:=by decide+kernel
theorem aqT:((List.range 32).all λm=>(List.range 8).all λx=>gY (128+m) x false)=true:=by decide+kernel
theorem aqS:((List.range 32).all λm=>(List.range 8).all λx=>gY (160+m) x false)=true:=by decide+kernel
theorem aqR:((List.range 32).all λm=>(List.range 8).all λx=>gY (192+m) x false)=true:=by decide+kernel
theorem aqQ:((List.range 32).all λm=>(List.range 8).all λx=>gY (224+m) x false)=true:=by decide+kernel
end
section
theorem ahK:ZnT "set.__iter__"=some Builtin.«frozenset.__iter__»:=
 entryFor_alias (id':="frozenset.__iter__") Uk rfl (by decide+kernel) Uk
theorem wz:Slot "set_iterator" "__next__" "set_iterator.__next__":=
 .of (owner:="set_iterator") (n:="__next__") (by rw[typeLookup_type,builtinLookup_eq_fast];kernel_rfl) ZT ZT ZT (by first |exact .inl (by decide+kernel)|exact .inr (by decide+kernel)) (by rw[ab2];kernel_rfl)
theorem Rw:ZnT "set_iterator.__next__"=some Builtin.«set_iterator.__next__»:=entryFor_of_tree Uk
theorem Rv:Manifest.owners.lookup (String.ofList "set_iterator".toList.reverse.reverse)=some Manifest.sig_set_iterator:=by kernel_rfl
theorem Rx(a:Value):argsOk "set_iterator.__next__" ⟨[a],[]⟩:=by unfold argsOk;rw[IJ (id:="set_iterator.__next__") (n:="__next__".toList.reverse) (o:="set_iterator".toList.reverse) Uk Rv];kernel_rfl
theorem Rz:Slot "set_iterator" "__iter__" "set_iterator.__iter__":=
 .of (owner:="set_iterator") (n:="__iter__") (by rw[typeLookup_type,builtinLookup_eq_fast];kernel_rfl) ZT ZT ZT (by first |exact .inl (by decide+kernel)|exact .inr (by decide+kernel)) (by rw[ab2];kernel_rfl)
theorem ahy:ZnT "set_iterator.__iter__"=some Builtin.«dict_keyiterator.__iter__»:=
 entryFor_alias (id':="dict_keyiterator.__iter__") Uk rfl (by decide+kernel) Uk
theorem ahz(a:Value):argsOk "set_iterator.__iter__" ⟨[a],[]⟩:=by unfold argsOk;rw[IJ (id:="set_iterator.__iter__") (n:="__iter__".toList.reverse) (o:="set_iterator".toList.reverse) Uk Rv];kernel_rfl
def j_(h:Heap)(a:Addr)(es:WK)(ep:Nat)(t:SetTable):Prop:=∃o,h.get? a=some o/\o.ExactSet/\o.data=.set es ep t
section
variable {prog:Program}{w:World}{A:Around}{E:Zu}{s:Shared}{a it:Addr}{es:WK}{ep:Nat}{t:SetTable}
theorem j_.typeIs(x:ZcH t):s.TypeIs ZY "set":=let⟨o,ho,hx,_⟩:=x;⟨o,ho,hx.1⟩
theorem Hu{Q:ZlF}(h:Q (w.params.followText "set-order") s):YF setsByText Q E s:=by unfold setsByText;exact aj (P2 (aL h))
theorem ahH{Q:Zu}(x:ZcH t)(hf:Zl3)(hp:t.plain=true)
  (hQ:Q Ys {s with heap:=s.heap.push {cls:=.type "set_iterator",data:=.fields #[.int 0 0,.int 0 0,.ref a,.int es.size 0,.int ep 0]}}):YF (pyIter ZY) Q E s:=by
 obtain⟨o,ho,hx,hd⟩:=id x;refine HA x.typeIs PySem.F.slot_set_iter (mI PySem.F.slot_set_iter x.typeIs ahK ?_ (PySem.F.args_set_iter_1 _));unfold Builtin.«frozenset.__iter__» Builtin.Frozenset.slot0 slotArgs;simp only[afv,qy,kg,↓reduceIte,bind_assoc,jK,aee];unfold Builtin.Frozenset.addrOf Builtin.Frozenset.sizeOf;refine aj (aL (aj (aL (aj (aj (PV ho hd hf Yw))))));have hdr:ZaF (setDrawn a) (λb s'=>b=false/\s'=s) E s:=by unfold setDrawn;refine aj (Zjf (aj (Hu (aL ⟨?_,rfl⟩))));obtain⟨t1,t2,t3,t4,t5,t6,t7⟩:=t;have E4:t7=true:=hp;subst E4;cases w.params.followText "set-order"<;>rfl
 refine aj (gL hdr (λb s' hb=>?_) λ_ _ x=>x);obtain⟨rfl,rfl⟩:=hb;rw[ae eh];refine aj (aL (aj (wpAny_setEpoch_of ho hd hf ?_)));unfold newFields;refine aj (vJ (aL ⟨_,rfl,"set_iterator",_,ZhB,wz.lookup,?_⟩));exact hQ
def vd(h:Heap)(it a:Addr)(n ep sl i:Nat):Prop:=∃o,h.get? it=some o/\o.cls=.type "set_iterator"/\o.data=.fields #[.int sl 0,Xs 0,.ref a,ZdT 0,.int ep 0]
theorem vd.typeIs{n sl i:Nat}(x:ZiA n ep sl i):s.TypeIs XJ "set_iterator":=let⟨o,ho,hc,_⟩:=x;⟨o,ho,hc⟩
theorem ahx{n sl i:Nat}{Q:Zu}(x:ZiA n ep sl i)(h:Q XJ s):YF (pyIter XJ) Q E s:=by refine HA x.typeIs Rz (mI Rz x.typeIs ahy ?_ (ahz _));show ZaF (ret XJ) _ _ s;exact aL ⟨_,rfl,"set_iterator",_,x.typeIs,wz.lookup,h⟩
theorem ahE{Q:ZcD}{sl i sl':Nat}{v:Value}(x:ZiA es.size ep sl i)(y:ZcH t)(hf:Zl3)
  (hn:∀(Q':Zj9),Q' (some (v,sl')) s->Zrg)
  (hQ:∀h',vd h' it a es.size ep sl' YU->Zs9->Q VS {s with heap:=h'}):Zhe:=by
 ext bv;rw[ae Zf];refine aj (gL (hn (λr s'=>r=some (v,sl')/\s'=s) Uv) (λr s' hr=>?_) λ_ _ h=>h.elim);ext ay;refine ZlI;have xQ:=zf (Obj.mapFields (·.setIfInBounds 0 (rawInt (sl':Int)))) ho (aeQ Zgd);refine aj (Cy xQ Zgd Zf ?_);have LI:=zf ZoL xQ (aeQ (vm Zgd _));refine aL ⟨_,rfl,aL (hQ _ ⟨_,LI,?_,?_⟩ ((vz ..).trans (vz ..)))⟩
 ·rw[aeR,aeR];exact hc
 ·rw[vm Zgd];simp[rawInt]
theorem ahI{Q:ZcD}{sl i:Nat}(hh:Vc)(x:ZiA es.size ep sl i)(y:ZcH t)(hf:Zl3)
  (hn:∀(Q':Zj9),Q' none s->Zrg)
  (hQ:ZoN):Zhe:=by
 ext bv;rw[ae Zf];refine aj (gL (hn (λr s'=>r=none/\s'=s) Uv) (λr s' hr=>?_) λ_ _ h=>h.elim);ext ay;refine aj (Cy ho hd Zf (aj ?_));ext bz;have hh1:A.in1.handled=none:=hh;rw[hh1];refine ZtF;refine aj (HF (b:=true) (T:="StopIteration") ZhB ab3 (aL (hQ _ ?_)));exact((vz ..).extBut.push _).push _
end
end
section
def top(i:Nat):Stmt:=PySem.Challenge.pw_batchrecord_s01_answers.main.body.getD i Zhq
theorem cU:bootBuiltins "len"=some ZhX:=by decide+kernel
theorem BK:bootBuiltins "any"=some Zmt:=by decide+kernel
theorem u_:bootBuiltins "all"=some Zms:=by decide+kernel
theorem arN:bootBuiltins "ord"=some (.builtin "ord"):=by decide+kernel
theorem arJ:bootBuiltins "sum"=some ZhY:=by decide+kernel
theorem aeq:bootBuiltins "min"=some Zmu:=by decide+kernel
theorem arO:bootBuiltins "max"=some (.builtin "max"):=by decide+kernel
theorem arL:bootBuiltins "sorted"=some ZlC:=by decide+kernel
theorem aer:bootBuiltins "list"=some Yk:=by decide+kernel
theorem arQ:bootBuiltins "dict"=some Zax:=by decide+kernel
theorem arM:bootBuiltins "set"=some Zff:=by decide+kernel
theorem arP:bootBuiltins "int"=some (.type "int"):=by decide+kernel
theorem arK:bootBuiltins "str"=some (.type "str"):=by decide+kernel
structure Got(P:Program)(w:World)(K:PySem.W.Frag)(mg:Zy)(base:Heap)(x:Str)(ps:Zc)(k:Nat)(sp:Sp):Prop where
 ex:∃(f:Addr) (fd:FuncData),Zh7/\mg x=some Yn/\Uh Yn=true/\UC ps []
section
variable {X:Cx}
theorem az{x:Str}{ps:Zc}{k j:Nat}{sp:Sp}{e:Expr}{es:Ya}{t:TA}{p pos:Pos}(G:Got X.prog X.w X.K X.mg X.base x ps k sp)(hr:eA j X.A)(hg:XX)(ha:VG t)(hk:k<=j:=by first |decide|omega)
  (j5:(x==("__debug__":Str))=false:=by decide) (he:Wq X.env=(false,Yz)::VL X.env:=by rfl) (cC:(Xb WJ).any Zh=false:=by rfl):
  PE X Zcm (sN sp [] E0 t):=by
 obtain⟨f,fd,F,hm,LV,hb⟩:=G.ex;exact aiD F (hr.mono hk) hg hm LV hb .nil D1 ha j5 he cC
structure nG(P:Program)(w:World)(K:PySem.W.Frag)(mg:Zy)(base:Heap)(x:Str)(C:Addr)(ps:Zc)(k:Nat)(sp:Sp):Prop where
 ex:∃(f:Addr) (fd:FuncData),Mk K C f/\Zh7/\mg x=some Wd/\UC ps []
theorem qS{x:Str}{C:Addr}{ps:Zc}{k j:Nat}{sp:Sp}{e:Expr}{es:Ya}{t:TA}{p pos:Pos}(G:ZpN)(hr:eA j X.A)(hg:XX)(ha:VG t)(hk:k+1<=j:=by first |decide|omega)
  (j5:(x==("__debug__":Str))=false:=by decide) (he:Wq X.env=(false,Yz)::VL X.env:=by rfl) (cC:(Xb WJ).any Zh=false:=by rfl):
  PE X Zcm (o_ C sp [] E0 t):=by
 obtain⟨f,fd,M,F,hm,hb⟩:=G.ex;exact aiw M F (hr.mono hk) hg hm hb .nil D1 ha j5 he cC
theorem aaq{x:Str}{C:Addr}{ps:Zc}{k j:Nat}{sp:Sp}{p pos:Pos}(G:ZpN)(hr:eA j X.A)(hg:XX)(hk:k+1<=j:=by first |decide|omega)
  (j5:(x==("__debug__":Str))=false:=by decide):
  PE X Zrr (o_ C sp [] E0 lM):=by
 obtain⟨f,fd,M,F,hm,hb⟩:=G.ex;exact aiv M F (hr.mono hk) hg hm hb .nil D1 j5
def cJ(mg:Zy)(x:Str)(i:Int):Prop:=∃t,mg x=some Zce
def Po(mg:Zy)(x:Str)(z:Str):Prop:=∃t,mg x=some (ZdU t)
theorem bE{x:Str}{i:Int}{pos:Pos}(h:cJ X.mg x i)(hg:XX)(hd:(x==("__debug__":Str))=false:=by decide):Zt Um (tC Xs):=by obtain⟨t,e⟩:=h;exact Kl hg e Vl hd
theorem qT{x:Str}{z:Str}{pos:Pos}(h:Po X.mg x z)(hg:XX)(hd:(x==("__debug__":Str))=false:=by decide):Zt Um (tC ZdU):=by obtain⟨t,e⟩:=h;exact Kl hg e Vl hd
theorem DY{x:Str}{a:Addr}{pos:Pos}(h:X.mg x=some ZY)(hg:XX)(hd:(x==("__debug__":Str))=false:=by decide):Zt Um (tC ZY):=
 Kl hg h rfl hd
theorem bq(i:Nat){x:Str}{e:Expr}{te:TE}{pos pos':Pos}(hN:X.N.Nodup)(he:XR)(hi:X.N[i]? =some x:=by rfl)(hx:Zal:=by first |exact Or.inl rfl|exact Or.inr rfl)
  (hs:ZpB X.env=pure false:=by rfl) (hf:X.fn x=true∨X.env.scope.names.lookup x=some .local :=by first |exact .inl rfl|exact .inr rfl):
  PS X Zrb (nO te (lD i)):=ah9 hN hi hx he hs hf
theorem T_(i:Nat){x:Str}{e:Expr}{te:TE}{op:Operator}{ti:vc}{pos pos':Pos}(hN:X.N.Nodup)(he:XR)(ho:B_ X op ti)(hi:X.N[i]? =some x:=by rfl)(hx:Zal:=by first |exact Or.inl rfl|exact Or.inr rfl)
  (hf:X.fn x=true∨X.env.scope.names.lookup x=some .local :=by first |exact .inl rfl|exact .inr rfl):PS X Zp5 (sQ i te ti):=aic hN hi hx he ho hf
theorem aZ(i:Nat){x:Str}{pos:Pos}(hN:X.N.Nodup)(hi:X.N[i]? =some x:=by rfl)(hx:Zal:=by first |exact Or.inl rfl|exact Or.inr rfl)
  (hf:X.fn x=true∨X.env.scope.names.lookup x=some .local :=by first |exact .inl rfl|exact .inr rfl):PG X Um (lD i):=aip hN hi hx hf
theorem pz(i:Nat){y:Str}{py:Pos}{elt tg iter:Expr}{ifs:Ya}{scope:Scope}{own:Zau}{pos CU:Pos}{wi:TI}{g:TG}{tt:TT}{te:TE}(hc:XA)(hN:X.N.Nodup)(hi:Ze0)(ok:Zek)
  (hg:ZgC) (ht:ZgB)
  (he:ZgA) (hy:X.N[i]? =some y:=by rfl) (jr:X.env.scope.names.lookup y=some .local :=by rfl)
  (hk:X.env.scope.kind=.function :=by rfl) (hl:(py.line==pos.line)=true:=by rfl) (ha:(scope.names.any λ(n,k)=>n==y&&(k==.local ||k==.cell))=false:=by decide+kernel)
  (hs:∀x,Zel x=pure x:=by intro _;rfl):
  PS X Zrq (nO Zej (lD i)):=
 ah8 hc hN hy jr (ag6 hk jr hl ha) hi ok hg ht he hs
end
section
variable {X:Cx}{K:PySem.W.Frag}
theorem i4{es:Ya}{k:Nat}{t:sj}{pos:Pos}(n:Nat)(K:PySem.W.Frag)(hc:XA)(h:Ca X es t)(hK:X.K=K:=by rfl)
  (hn:(Zfk X.env).length =n:=by rfl) (aT:(Zfk X.env).findIdx? Zh=none:=by rfl):PG X (.Tuple es k pos) (uR K n t):=by
 subst hK;exact aio hc h hn aT
theorem aD{e:Expr}{ta:TE}{f:Str}{pos:Pos}(K:PySem.W.Frag)(he:Zt e ta)(hb:ZpS)(hK:X.K=K:=by rfl):Zt Zlt (sJ K ta f):=by subst hK;exact aiy he hb
theorem iY{o value:Expr}{ta tv:TE}{f:Str}{pos pos':Pos}(K:PySem.W.Frag)(ha:Zt o ta)(hv:ZiZ)(hs:ZjI)(hK:X.K=K:=by rfl):PS X Zke (nU K ta tv f):=by subst hK;exact aia ha hv hs
theorem bF(K:PySem.W.Frag)(hK:X.K=K:=by rfl):ze X (tH K):=by subst hK;exact alR
theorem uc(K:PySem.W.Frag)(hK:X.K=K:=by rfl):ze X (tG K):=by subst hK;exact alQ
theorem mK(K:PySem.W.Frag)(hK:X.K=K:=by rfl):Ox X (tE K):=by subst hK;exact ahs
theorem km(K:PySem.W.Frag)(hK:X.K=K:=by rfl):Zhz (qP K false):=by subst hK;exact aiT
theorem Am(K:PySem.W.Frag)(hK:X.K=K:=by rfl):Zlc (qP K true):=by subst hK;exact aiP
theorem BD(K:PySem.W.Frag)(hc:XA)(hK:X.K=K:=by rfl):gJ X Zmt (tI K):=by subst hK;exact aqw hc
theorem uY(K:PySem.W.Frag)(hc:XA)(hK:X.K=K:=by rfl):gJ X Zms (tJ K):=by subst hK;exact aqx hc
theorem c6(K:PySem.W.Frag)(hK:X.K=K:=by rfl):gJ X ZhX (λxs H Q=>∃x n,xs=[x]/\oT K x H n/\Q ZdT H):=by subst hK;exact aro
theorem arn(K:PySem.W.Frag)(hK:X.K=K:=by rfl):gJ X Yk (λxs H Q=>∃p ys,xs=[.ref p]/\(Y2 p ys∨Vx p ys)/\∀l,H l=none->Z0 (XZ Zdt)):=by subst hK;exact ark
theorem dq{T:String}{name:Str}{id:String}{r:V8}{o e:Expr}{es:Ya}{to:TE}{t:TA}{apos gq:Pos}(K:PySem.W.Frag)(pa:PlainAttrs T)(slot:Slot T name id)(rD:ZgF)(hm:oP X id r)(ho:UU)(ha:VG t)
  (hK:X.K=K:=by rfl) (lA:Ziv Uo=Za9 X.env:=by rfl)
  (A9:((Zb1 (Wq X.env)).all (λx=>!x.1)&&(backToKw gq Zhl).all Zmp
   &&decide ((e::es).length +([]:List Keyword).length +(if([]:List Keyword).isEmpty then 0 else 1)<30))=true:=by rfl)
  (lx:(apos.endLine==gq.line)=true:=by rfl) (hs:Wq X.env=(false,Yz)::VL X.env:=by rfl) (LB:(Zb1 WJ).any Zh=false:=by rfl):
  PE X (.Call Zic Za2 [] gq) (sP K T r to t):=by
 subst hK;exact aiE pa slot rD hm ho ha lA A9 lx hs LB
theorem Em(K:PySem.W.Frag)(hK:X.K=K:=by rfl):oP X "list.index" (J8 K):=by subst hK;exact akZ
theorem cf{tg l:Expr}{tl:TE}(K:PySem.W.Frag)(hl:Zt l tl)(hK:X.K=K:=by rfl):Zcc l (ui K tl):=by subst hK;exact ail hl
theorem aij{tg l:Expr}{tl:TE}(K:PySem.W.Frag)(hl:Zt l tl)(hK:X.K=K:=by rfl):Zcc l (uh K tl):=by subst hK;exact aik hl
theorem Ai{e:Expr}{ta:TA}{p pos fQ:Pos}{elts:Ya}{kk:Nat}(K:PySem.W.Frag)(hg:ZmW)(hm:Zlw)(ha:PA X [e] ta)(hK:X.K=K:=by rfl)(hs:starEach [e] X.env=[(false,Yz)]:=by rfl):
  PI X VC Zpv (uj K ta):=by
 subst hK;exact ain hg hm ha hs
def vQ(K:PySem.W.Frag)(ta:TE):TT:=fun σ H Q=>Xc H λx H'=>∃k,yO K x H' k/\Q k H'
theorem ck{a:Expr}{ta:TE}(K:PySem.W.Frag)(ha:We)(he:Zol)(hK:X.K=K:=by rfl):PT X a (vQ K ta):=by subst hK;exact ah5 ha he
end
def nat(n:Nat):V:=.int (n:Int)
theorem xm{a b:Nat}:(nat a=nat b)=(a=b):=by unfold nat;simp only[V.int.injEq,Int.ofNat_inj]
theorem mU{t:Nat}{i:Int}:(nat t=V.int i)=((t:Int)=i):=by unfold nat;simp only[V.int.injEq]
theorem AI{t:Nat}{i:Int}:(V.int i=nat t)=(i=(t:Int)):=by unfold nat;simp only[V.int.injEq]
theorem Bs(t:Nat):V.int (t:Int)=nat t:=rfl
theorem fold_succ(t:Nat):V.int ((t:Int)+1)=nat (t+1):=rfl
def natAt(σ:L2.St)(i:Nat):Nat:=match σ[i]? with
 |some (some (.int z))=>z.toNat
 |_=>0
theorem wD{a b:Nat}:qL (nat a) (nat b)=true:=rfl
theorem zP{a:Nat}{i:Int}:qL (nat a) Xs=true:=rfl
theorem zQ{a i:Int}:qL (.int a) Xs=true:=rfl
theorem zO{a b:Str}:qL (.str a) (.str b)=true:=rfl
theorem cQ{K:PySem.W.Frag}{H:Hp}{p:Addr}{xs:Ze}(h:H p=some Yq):CG K "list" Z7 H:=.inl ⟨rfl,_,ZaV⟩
def nats(ns:Za):Ze:=ns.map nat
theorem bA(ns:Za):(nats ns).length =ns.length:=X0
theorem KC(ns:Za)(n:Nat):nats (ns++[n])=nats ns++[nat n]:=by unfold nats;rw[cA];rfl
theorem lg(a b:Za):nats (a++b)=nats a++nats b:=cA
theorem KG(a:Nat)(b:Za):nats (a::b)=nat a::nats b:=rfl
theorem KD:nats []=[]:=rfl
theorem akU{ns:Za}{i n:Nat}(h:ns[i]? =some n):(nats ns)[i]? =some (nat n):=by unfold nats;rw[cx,h];rfl
theorem aaW(ns:Za):(nats ns).all il=true:=by unfold nats;rw[mB];exact dh.mpr λ_ _=>rfl
theorem acd(x:Nat)(ns:Za):mZ XW (nats ns)=ns.contains x:=by
 unfold mZ nats;rw[vw]
 induction ns with
 |nil=>rfl
 |cons a r ih=>
  rw[ke,Hh,ih];show(((a:Int)==(x:Int))||_)=((x==a)||_);congr 1;by_cases h:a=x
  ·subst h;simp
  ·have h1:((a:Int)==(x:Int))=false:=ip.mpr (λq=>h (mE q));have h2:(x==a)=false:=ip.mpr (λq=>h q.symm);rw[h1,h2]
theorem nW{K:PySem.W.Frag}{H:Hp}{q:Addr}{R:Za}{x:Nat}{Q:VK}(h:H q=some ZmT)(hQ:Q (.bl (R.contains x)) H):qP K false XW XO H Q:=
 ⟨q,_,rfl,.inl ZaV,rfl,aaW _,by rw[acd];exact hQ⟩
theorem TU{K:PySem.W.Frag}{H:Hp}{q:Addr}{R:Za}{x:Nat}{Q:VK}(h:H q=some ZmT)(hQ:Q (.bl (!R.contains x)) H):qP K true XW XO H Q:=
 ⟨q,_,rfl,.inl ZaV,rfl,aaW _,by rw[acd];exact hQ⟩
def aE(b:Bytes):V:=.str ⟨b.toArray⟩
theorem ahe{a b:Bytes}:(aE a=aE b)=(a=b):=by unfold aE;simp only[V.str.injEq,Str.mk.injEq];exact ZjJ
theorem wB{a b:Nat}:((⟨#[a]⟩:Str)=⟨#[b]⟩)=(a=b):=by simp only[Str.mk.injEq];exact ZjJ
theorem str_inj{a b:Bytes}:((⟨a.toArray⟩:Str)=⟨b.toArray⟩)=(a=b):=by simp only[Str.mk.injEq];exact ZjJ
def sz:sizeLine=16777216:=rfl
theorem gN{α β:Type}{F:Ur}:∀{l:ZN} {m:WA} {i:Nat} {a:α},Zcf->l[i]? =some a->∃b,m[i]? =some b/\F a b
 |_,_,i,_,.nil,h=>by simp at h
 |_,_,0,_,.cons h t,e=>by have e':=bY e;subst e';exact Zda
 |_,_,i+1,_,.cons h t,e=>gN (i:=i) t e
theorem Aj{α β:Type}{F:Ur}:∀{l:ZN} {m:WA} {i:Nat} {b:β},Zcf->m[i]? =some b->∃a,l[i]? =some a/\F a b
 |_,_,i,_,.nil,h=>by simp at h
 |_,_,0,_,.cons h t,e=>by have e':=bY e;subst e';exact Zda
 |_,_,i+1,_,.cons h t,e=>Aj (i:=i) t e
theorem du{α β:Type}{F:Ur}:∀{l:ZN} {m:WA},Zcf->l.length=m.length
 |_,_,.nil =>rfl
 |_,_,.cons h t=>cb (· +1) (du t)
theorem gA{α β:Type}{F G:Ur}(f:∀a b,F a b->G a b):∀{l:ZN} {m:WA},Zcf->Paired G l m
 |_,_,.nil =>.nil
 |_,_,.cons h t=>.cons (f _ _ h) (gA f t)
theorem dA{α:Type}:∀{l:ZN} {i:Nat} {x:α},l[i]? =some x->l.take YU=l.take i++[x]
 |[],i,x,h=>by simp at h
 |a::l,0,x,h=>by have e:a=x:=bY h;subst e;rfl
 |a::l,i+1,x,h=>by have ih:=dA (l:=l) (i:=i) (x:=x) h;show a::l.take YU=a::l.take i++[x];rw[ih];rfl
theorem get_map{α β:Type}{f:α->β}{l:ZN}{i:Nat}{y:β}(h:(l.map f)[i]? =some y):∃x,l[i]? =some x/\y=f x:=by
 rw[cx]at h;cases e:l[i]? with
 |none=>
  rw[e]at h;cases h
 |some x=>
  rw[e]at h;exact⟨x,rfl,(bY h).symm⟩
def NT:HO->Prop
 | .b9 _=>False
 |_=>True
def rA:Str:="can_fill_parts.<locals>.<lambda>"
def BF(c:Addr):HO:=.ext λh=>h.CodeRec Zb2 rA
def Tab(H:Hp)(P:Addr):Prop:=∃ps,H P=some Zgr/\PySem.TriplesOk ps.toList/\∀pos cv,codeAmong pos ps.toList=some cv->∃c,cv=.ref c/\H c=some (BF c)
structure ah(H H':Hp):Prop where
 keep:∀b o,NT o->H b=some o->H' b=some o
 b9:∀b ps,H b=some Zgr->∃iz,H' b=some Zdz
 tab:∀P,Wi P->Tab H' P
theorem ah.at{H H':Hp}(s:Zd){b:Addr}{o:HO}(h:H b=some o)(n:NT o:=by exact trivial):H' b=some o:=ZbT n h
theorem ah.refl(H:Hp):ZQ H:=⟨λ_ _ _ h=>h,λ_ ps h=>⟨ps,h⟩,λ_ h=>h⟩
theorem ah.trans{H H1 H2:Hp}(a:ZQ H1)(b:Yc H2):ZQ H2:=
 ⟨λc o n h=>b.keep c o n (a.keep c o n h),λc ps h=>let⟨p1,h1⟩:=a.b9 c ps h;b.b9 c p1 h1,λP h=>b.tab P (a.tab P h)⟩
theorem ah.free{H H':Hp}(e:Zd){l:Addr}(h:H' l=Option.none):H l=Option.none:=by
 cases q:H l with
 |none=>rfl
 |some o=>
  exfalso;cases o with
  |b9 ps=>
   ext cJ
  |_=>
   have q':=e.at q;rw[q']at h;cases h
theorem ah.seq{K:PySem.W.Frag}{H H':Hp}{a:Addr}{xs:Ze}(e:Zd)(h:YO):ag K H' a xs:=by
 rcases h with(h|⟨o,h⟩)|h
 ·exact .inl (.inl (e.at h))
 ·exact .inl (.inr ⟨o,e.at h⟩)
 ·exact Vs
theorem ah.all{H H':Hp}(k:∀b o,H b=some o->H' b=some o):Zd:=
 ⟨λb o _ h=>k b o h,λb ps h=>⟨ps,k b _ h⟩,λP ⟨ps,h1,h2,h3⟩=>⟨ps,W7 h1,h2,λpos cv e=>let⟨c,e1,e2⟩:=Zdk;⟨c,e1,W7 e2⟩⟩⟩
def NX(x:ZaL):Prop:=∀φ,x≠some (.ext φ)
theorem qY{x:ZaL}(h:x=none):NX x:=fun φ e=>by rw[h]at e;cases e
theorem gf{x:ZaL}{xs:Ze}(h:x=some Yq):NX x:=fun φ e=>by rw[h]at e;cases e
theorem Eh{x:ZaL}{xs:Yb}(h:x=some (.dK xs)):NX x:=fun φ e=>by rw[h]at e;cases e
theorem akA{x:ZaL}{C dx:Addr}{fs:Y6}(h:x=some Up):NX x:=fun φ e=>by rw[h]at e;cases e
theorem atP{x:ZaL}{o:Obj}{u:HO}(h:x=some ZaK):NX x:=fun φ e=>by rw[h]at e;cases e
theorem bV{H H1:Hp}{l:Addr}{o:HO}(s:ZQ H1)(n:H l=none)(nx:NX (H1 l):=by first |exact gf (by assumption)|exact Eh (by assumption)|exact qY (by assumption)|exact akA (by assumption)|exact gf au|exact Eh au):ZQ (Yo l o):=by
 refine⟨λb u t e=>?_,λb ps e=>?_,λP h=>?_⟩
 ·rw[ax (cg e n)];exact s.keep b u t e
 ·rw[ax (cg e n)];exact Zgo e
 ·ext cl;refine⟨ps,by rw[ax (cg h0 n)];exact h1,h2,λpos cv e=>?_⟩;ext bS
theorem a0{H:Hp}{l:Addr}{o:HO}(n:H l=none):ZQ (XZ o):=bV ZfA n (qY n)
structure SameBut(n:Addr)(H H':Hp):Prop where
 keep:∀b o,b≠n->NT o->H b=some o->H' b=some o
 b9:∀b ps,H b=some Zgr->∃iz,H' b=some Zdz
 tab:∀P,Wi P->Tab H' P
theorem SameBut.at{n:Addr}{H H':Hp}(s:WV H H'){b:Addr}{o:HO}(hb:b≠n)(h:H b=some o)(t:NT o:=by exact trivial):H' b=some o:=ZbT hb t h
theorem BP(n:Addr)(H:Hp):WV H H:=⟨λ_ _ _ _ h=>h,λ_ ps h=>⟨ps,h⟩,λ_ h=>h⟩
theorem SameBut.same{n:Addr}{H H1 H2:Hp}(a:WV H H1)(b:Yc H2):WV H H2:=
 ⟨λc o hc t h=>b.keep c o t (a.keep c o hc t h),λc ps h=>let⟨p1,h1⟩:=a.b9 c ps h;b.b9 c p1 h1,λP h=>b.tab P (a.tab P h)⟩
theorem SameBut.put{n:Addr}{H H1:Hp}{o o1:HO}(a:WV H H1)(h:H1 n=some o1)(t:NT o1:=by exact trivial)(x:∀φ,o1≠.ext φ:=by intro φ e;cases e):WV H (Yo n o):=by
 refine⟨λc u hc t h=>by rw[ax hc];exact a.keep c u hc t h,λc ps hc=>?_,λP hP=>?_⟩
 ·obtain⟨p1,h1⟩:=a.b9 c ps hc;refine⟨p1,?_⟩;rw[ax λq=>by
   rw[q,h]at h1;cases h1
   exact t]
  exact h1
 ·obtain⟨ps,h1,h2,h3⟩:=a.tab P hP;refine⟨ps,?_,h2,λpos cv e=>?_⟩
  ·rw[ax λq=>by
    rw[q,h]at h1;cases h1
    exact t]
   exact h1
  ·obtain⟨c,e1,e2⟩:=Zdk;refine⟨c,e1,?_⟩;rw[ax λq=>by
    rw[q,h]at e2;cases e2
    exact x _ rfl]
   exact e2
theorem IS{H:Hp}{d:Addr}{u:HO}{od:Obj}(h:ZfU)(t:NT u:=by exact trivial)(x:∀φ,u≠.ext φ:=by intro φ e;cases e):SameBut d H Zfy:=(BP d H).put h t x
theorem SameBut.unlock{H H':Hp}{d:Addr}{u:HO}{od:Obj}(s:SameBut d H H')(h:ZfU)(h':H' d=some Us):ZQ Zdr:=by
 have p:=s.put (o:=u) h' trivial (fun φ e=>ZbC);refine⟨λb o t e=>?_,p.b9,p.tab⟩;by_cases hb:b=d
 ·subst hb;rw[h]at e;cases e
  exact au
 ·exact p.keep b o hb t e
def g8(H:Hp)(a:Addr)(ps:ZX):Prop:=
 ∃rs:List Addr,H a=some WQ/\Zpx ps
theorem g8.same{H H':Hp}{a:Addr}{ps:ZX}(s:Zd)(h:U3 ps):g8 H' a ps:=by obtain⟨rs,h1,h2⟩:=h;exact Zq4
def fN(H:Hp)(a:Addr)(ns:Yv):Prop:=
 ∃rs:List Addr,H a=some WQ/\ZgE ns
theorem fN.same{H H':Hp}{a:Addr}{ps:Yv}(s:Zd)(h:Zba ps):fN H' a ps:=by obtain⟨rs,h1,h2⟩:=h;exact Zq4
structure Ad where
 plan:Addr
 record:Addr
 j9:Addr
 call:Addr
 entry:Addr
 part:Addr
 lU:Addr
 pF:Addr
 Ee:Addr
 tab:Addr
structure aW where
 dx:Addr
 r:Addr
 p:Addr
 s:Addr
 pr:Addr
 sr:Addr
 m:Addr
 d:Addr
 a:Addr
 u:Addr
 l:Addr
def aW.aH(i:aW):Zz:=[i.r,i.p,i.s,i.pr,i.sr,i.m,i.a,i.u,i.l]
def mP(i:aW):Y6:=[("roles",.ref i.r),("persons",.ref i.p),("steps",.ref i.s),("person_roles",.ref i.pr),("step_roles",.ref i.sr),("mosts",.ref i.m),("pairs",.ref i.d)]
def xb(i:aW):Yb:=[(.inr "after",.ref i.a),(.inr "unlike",.ref i.u),(.inr "alike",.ref i.l)]
structure dw(C:Addr)(H:Hp)(p:Addr)(i:aW)(P:Plan):Prop where
 ins:H p=some (V1 i.dx (mP i))
 roles:H i.r=some Zey
 persons:H i.p=some (.lst ZgV)
 steps:H i.s=some (.lst Zkt)
 eF:H i.m=some (.lst Zkg)
 pairs:H i.d=some (.dK (xb i))
 pr:fN H i.pr ZrF
 sr:fN H i.sr Zsg
 after:g8 H i.a P.after
 unlike:g8 H i.u P.unlike
 alike:g8 H i.l P.alike
theorem dw.same{C:Addr}{H H':Hp}{p:Addr}{i:aW}{P:Plan}(s:Zd)(h:Zi2):ZiI:=
 ⟨s.at h.ins,s.at h.roles,s.at h.persons,s.at h.steps,s.at h.eF,s.at h.pairs,h.pr.same s,h.sr.same s,h.after.same s,h.unlike.same s,h.alike.same s⟩
theorem nX(i:aW):(mP i).lookup ("roles":Str)=some (V.ref i.r):=rfl
theorem kZ(i:aW):(mP i).lookup ("persons":Str)=some (V.ref i.p):=rfl
theorem kY(i:aW):(mP i).lookup ("steps":Str)=some (V.ref i.s):=rfl
theorem DW(i:aW):(mP i).lookup ("person_roles":Str)=some (V.ref i.pr):=rfl
theorem DV(i:aW):(mP i).lookup ("step_roles":Str)=some (V.ref i.sr):=rfl
theorem Ac(i:aW):(mP i).lookup ("mosts":Str)=some (V.ref i.m):=rfl
theorem nY(i:aW):(mP i).lookup ("pairs":Str)=some (V.ref i.d):=rfl
theorem atM(i:aW):eO (xb i) (Sum.inr ("after":Str))=some (V.ref i.a):=rfl
theorem atJ(i:aW):eO (xb i) (Sum.inr ("unlike":Str))=some (V.ref i.u):=rfl
theorem atL(i:aW):eO (xb i) (Sum.inr ("alike":Str))=some (V.ref i.l):=rfl
structure Wf(P:Plan):Prop where
 roles:P.roles.length<=8
 persons:P.persons.length<=7
 steps:P.steps.length<=7
 after:P.after.length<=12
 unlike:P.unlike.length<=12
 alike:P.alike.length<=12
 gd:∀y,y∈P.after∨y∈P.unlike∨y∈P.alike->y.1<P.steps.length/\y.2<P.steps.length
 ne:∀y,y∈P.after∨y∈P.unlike∨y∈P.alike->y.1≠y.2
 eF:∀x∈P.persons,x.most<=99
 mO:∀x∈P.persons,x.roles.length<=8
 qK:∀x∈P.steps,x.roles.length<=8
 qQ:∀x∈P.persons,∀r∈x.roles,r<P.roles.length
 wu:∀x∈P.steps,∀r∈x.roles,r<P.roles.length
 tq:∀n∈P.roles,n.length<=12
 pC:∀x∈P.persons,x.name.length<=12
 sS:∀x∈P.steps,x.name.length<=12
 w6:(P.persons.map λx=>x.name).Nodup
structure bC where
 dx:Addr
 p:Addr
 ab:Addr
 en:Addr
 sg:Addr
def mM(i:bC):Y6:=[("plan",.ref i.p),("absent",.ref i.ab),("entries",.ref i.en),("signers",.ref i.sg)]
theorem lR(i:bC):(mM i).lookup ("plan":Str)=some (V.ref i.p):=rfl
theorem z_(i:bC):(mM i).lookup ("absent":Str)=some (V.ref i.ab):=rfl
theorem pk(i:bC):(mM i).lookup ("entries":Str)=some (V.ref i.en):=rfl
theorem wN(i:bC):(mM i).lookup ("signers":Str)=some (V.ref i.sg):=rfl
def lW:Option Nat->V
 |none=>.ba
 |some x=>XW
def kO(P:Plan)(ab:Za):Ze:=(List.range P.persons.length).map λx=>V.bl Zit
def ic(P:Plan)(c:Choice):Ze:=(List.range P.steps.length).map λs=>lW (Vbwbal.signer c s)
structure RecAt(A:Ad)(H:Hp)(r:Addr)(i:bC)(j:aW)(P:Plan)(ab:Za)(c:Choice):Prop where
 ins:H r=some Zem
 plan:dw A.plan H i.p j P
 absent:H i.ab=some (.lst (kO P ab))
 ib:H i.sg=some (.lst (ic P c))
 tab:Wi A.tab
theorem RecAt.same{A:Ad}{H H':Hp}{r:Addr}{i:bC}{j:aW}{P:Plan}{ab:Za}{c:Choice}(s:Zd)(h:YM):RecAt A H' r i j P ab c:=
 ⟨s.at h.ins,h.plan.same s,s.at h.absent,s.at h.ib,s.tab _ h.tab⟩
structure gZ(P:Plan)(c:Choice):Prop where
 steps:∀y∈c,y.1<P.steps.length
 persons:∀y∈c,y.2<P.persons.length
 nd:(c.map Zh).Nodup
 room:∀x,Vbwbal.load c x<=((P.persons[x]?).map λy=>y.most).getD 0
structure Txt(K:PySem.W.Frag)(mg:Zy)(A:Ad):Prop where
 cM:mg "len"=none
 aaX:mg "sum"=none
 xn:mg "any"=none
 rg:mg "all"=none
 aa1:mg "ord"=none
 KJ:mg "min"=none
 aa2:mg "max"=none
 aaZ:mg "sorted"=none
 KL:mg "list"=none
 aa4:mg "dict"=none
 aa0:mg "set"=none
 aa3:mg "int"=none
 aaY:mg "str"=none
 KI:mg "range"=none
 tS:mg "enumerate"=none
 tR:mg "zip"=none
 bU:jN K A.plan
 b_:∀f,f∈(["roles","persons","steps","person_roles","step_roles","mosts","pairs"]:List Str)->hJ K A.plan f
 dD:jN K A.record
 dG:∀f,f∈(["plan","absent","entries","signers"]:List Str)->hJ K A.record f
 r8:jN K A.entry
 kq:∀f,f∈(["kind","target","person","text"]:List Str)->hJ K A.entry f
 oI:jN K A.part
 tT:∀f,f∈(["steps","persons"]:List Str)->hJ K A.part f
 BI:jN K A.j9
 KN:∀f,f∈(["record"]:List Str)->hJ K A.j9 f
 lG:jN K A.call
 jW:∀f,f∈(["number","numbers","text","places"]:List Str)->hJ K A.call f
 an5:mg "NUMBER_COUNTS"=some (.ref A.pF)
 pF:∀H,Vx A.pF ZgK
 adb:mg "PAIR_WORDS"=some (.ref A.lU)
 lU:∀H,Vx A.lU [.str "after",.str "unlike",.str "alike"]
 FE:Po mg "LETTERS" "abcdefghijklmnopqrstuvwxyz"
 FF:Po mg "DIGITS" "0123456789"
 ac7:Z1 "UNTOLD_MOST" 99
 M_:Z1 "SIGNATURE" 0
 Nj:Z1 "AMENDMENT" 1
 Nf:Z1 "FIRST_LETTER" 97
 Ng:Z1 "FIRST_DIGIT" 48
 aop:Z1 "BLANK" 32
 aok:Z1 "LINE_END" 10
 aoi:Z1 "LONGEST_NAME" 12
 aob:Z1 "MOST_ROLES" 8
 aoc:Z1 "MOST_PERSONS" 7
 aoa:Z1 "MOST_STEPS" 7
 aod:Z1 "MOST_PAIRS" 12
 an6:Z1 "NO_SUCH_LINE" 1
 ada:Z1 "TOLD_ALREADY" 2
 Nc:Z1 "NOT_TOLD" 3
 ac8:Z1 "TURNS_ON_ITSELF" 4
 ac9:Z1 "TOO_MANY" 5
 ade:Z1 "NOTHING" 0
 an4:Z1 "SIGNED" 1
 an2:Z1 "TOO_EARLY" 2
 aog:Z1 "MAY_NOT" 3
 aon:Z1 "DOES_NOT_GO" 4
 an9:Z1 "NO_END" 5
 adf:Z1 "LOAD" 0
 aor:Z1 "AMEND" 8
 aoh:Z1 "LONGEST_TEXT" 4000
 aoj:Z1 "LONGEST_AMENDMENT" 60
 aof:Z1 "MOST_AMENDMENTS" 40
 aoe:Z1 "MOST_COUNTED" 6
 aom:Z1 "GREATEST_BYTE" 255
 qd:Z1 "NO_SUCH" (-1)
 an7:Z1 "NO_RECORD" (-2)
 an8:Z1 "NO_MORE" (-3)
 Nd:Z1 "NOT_SO" (-4)
 aoo:Z1 "CANT_END" (-7)
 an1:Z1 "TOO_MANY_LEFT" (-7)
 aoq:Z1 "BARRED" (-10)
 aol:Z1 "IS_ABSENT" (-13)
 an3:Z1 "SIGNED_IT" (-14)
 an0:Z1 "WRONG_TEXT" (-1000)
end
section
open Sem (wp)
open AutoSeq1 (wpAny_loadPart')
abbrev vx(v:Value):Zak:=[(Str.ofString "start",v)]
theorem agZ(a v:Value):checkTypeCall "enumerate" ⟨[a],vx v⟩=pure ():=by kernel_rfl
theorem akT(a v:Value):checkBuiltinCall "enumerate.__new__" ⟨[.type "enumerate",a],vx v⟩=pure ():=by kernel_rfl
theorem ar5(o a v:Value):ZtG ⟨[o,a],vx v⟩:=by unfold argsOk;rw[ZsM (n:=['_','_','t','i','n','i','_','_']) (o:=['t','c','e','j','b','o']) Uk F.owner_object];kernel_rfl
abbrev Bz(hp:Heap)(l:Addr):Heap:=hp.push {cls:=.type "list_iterator",data:=.fields #[.ref l,.int 0 0]}
abbrev By(hp:Heap)(l:Addr)(n:Int):Heap:=(Bz hp l).push {cls:=Ud,data:=.fields #[.none,.bool false,.ref hp.objs.size,rawInt n,.none,.none]}
theorem akM(l:Addr)(xs:YS)(m:Nat)(dd:Wt)(sl:Zdu)(t:Tok):
  Meets (Builtin.«enumerate.__new__» ⟨[.type "enumerate",.ref l],vx (Vv t)⟩) (λ_ R s=>s.heap.get? l=some {cls:=Yk,dict:=dd,data:=.seq xs m,slots:=sl}/\
   R (.ok (.ret (.ref (Bz s.heap l).objs.size))) {s with heap:=By s.heap l 1}):=
 .of_wp λprog w A R s h=>by
  ext bk;obtain⟨hl,h⟩:=h;have gj:=sub_enumerate;have hL:Zpj l xs:=⟨_,hl,rfl,m,rfl⟩
  wp_walk using HD hl
  refine wpAny_stack_any λst=>Yw;split
  ·rename_i c _ _ _ _ _;cases(c==Value.type "enumerate")
   ·wp_walk using HD hl,qB hL
    exact Zda
   ·wp_walk using HD hl,qB hL
    exact Zda
  ·wp_walk using HD hl,qB hL
   exact Zda
theorem amd{self a v:Value}:Meets (Builtin.«object.__init__» ⟨[self,a],vx v⟩) (λ_ R s=>s.TypeIs self "enumerate"/\R (.ok (.ret .none)) s):=by
 have hl:=afT.init.lookup;have hm:=afT.made;have aK:(some "enumerate.__new__" != some "object.__new__")=true:=by decide
 refine Meets.of_wp λprog w A R s ⟨hT,hq⟩=>?_
 repeat(any_goals(first |assumption|wp_step))
 exact⟨_,rfl,hq⟩
section
variable {prog:Program}{w:World}{A:Around}{E:Zu}{s:Shared}
theorem arq{l:Addr}{xs:YS}{t:Tok}{Q:Zu}(hL:Ze4 xs)
  (h:∀h',IsEnum h' YW s.heap.objs.size 1 .none ->ZrP l 0->(∀b o,s.heap.get? b=some o->h'.get? b=some o)->Q Zjo {s with heap:=h'}):
  wpAny Y5 A (call Ud [.ref l] (vx (Vv t))) Q E s:=by
 obtain⟨⟨c,dct,dt,sl⟩,hl,hc,n,hd⟩:=hL;replace hc:c=.type "list":=hc;replace hd:dt=.seq xs n:=hd;subst hc hd;have ft:=afT;obtain⟨c,tl,amW⟩:=ft.mro;have amZ:=ft.made;have gj:=ft.sub;have x8:=akT Z6 (Vv t);have hct:=agZ Z6 (Vv t);have hz:(Bz s.heap l).objs.size =s.heap.objs.size+1:=gb ..;have he:IsEnum (By s.heap l 1) YW s.heap.objs.size 1 .none :=by have e:=dj (Bz s.heap l) (o:={cls:=Ud,data:=.fields #[.none,.bool false,.ref s.heap.objs.size,rawInt 1,.none,.none]}) rfl;rw[hz]at e;exact e
 refine CA (ad4 ?_);show YI (callAny Ud _) _ _ _;refine aL ⟨afW _ ZT,yH F.entry_type_call ?_⟩;rw[Around.under_plain (weight_type_call_type "enumerate" [.ref l] _) (units_type_call_type "enumerate" [.ref l] _)];have h1:=ft.notType;have h2:=ft.canCreate
 repeat(any_goals(first |assumption|wp_step))
 refine uZ (ad5 ft.plain F.entry_enumerate_new (Cz x8 (akM l xs n dct sl t prog w A.in1 (wants (λobj s₁=>obj=.ref YW/\s₁={s with heap:=By s.heap l 1}) E) s ⟨hl,?_⟩))) λr s₁ hr=>?_
 ·show Value.ref (Bz s.heap l).objs.size =_/\_;rw[hz];exact Uv
 cases r with
 |error e=>exact hr
 |ok fl=>
  cases fl with
  |ret obj=>
   ext ay;have hT:Shared.TypeIs {s with heap:=By s.heap l 1} Zjo "enumerate":=⟨_,he,rfl⟩;have hli:=ft.init.lookup;have hbi:=ft.init.bind Zjo
   repeat(any_goals(first |assumption|wp_step))
   refine uZ (ad5 ft.init.plain F.entry_object_init (ft.init.check _ _ _ _ _ _ _ _ hT (ar5 _ _ _) (amd prog w A.in1 (wants (λr s₂=>r=.none /\s₂={s with heap:=By s.heap l 1}) E) _ ⟨hT,rfl,rfl⟩))) λr₂ s₂ Lu=>?_;cases r₂ with
   |error e=>exact Lu
   |ok fl₂=>
    cases fl₂ with
    |ret r=>
     obtain⟨rfl,rfl⟩:=Lu;have fin:=h _ he ⟨_,cV _ ZcY,rfl,rfl⟩ λb o x=>cV _ (cV _ x)
     repeat(any_goals(first |assumption|wp_step))
    |_=>exact Lu.elim
  |_=>exact hr.elim
end
end
section
def oU(J:It)(g:TG)(tt:TT)(te:TE)(vs:Za)(σ:L2.St)(Q:VK)(H1:Hp):Prop:=∀D,H1 D=none->∃W:Nat->Nat->Hp->Prop,(∃m,ZmF)/\∀i m H,W i m H->
 (ZdF H/\Q Vi H)∨(U2 H/\∃Nx:Hp->Prop,(∀H',Nx H'->∃m',m'<m/\W YU m' H')/\∀x H',Zaz->Zi3 H' fun σ2 H2=>wipe σ2 vs=XT vs/\tt σ2 H2 λb H3=>
  if b=true then te σ2 H3 λy H4=>∃acc,H4 D=some (.lst acc)/\acc.length<sizeLine/\Nx (upd H4 D (.lst (acc++[y])))else Nx H3)
theorem zB(wi:TI)(g:TG)(tt:TT)(te:TE)(vs:Za)(σ:L2.St)(H:Hp)(Q:VK):vZ wi g tt te vs σ H Q=wi σ H (λJ H1=>oU J g tt te vs σ Q H1):=rfl
def qu(J:It)(g:TG)(tb:TS)(D:Ends)(σ:L2.St)(H1:Hp):Prop:=∃W:Nat->Nat->L2.St->Hp->Prop,(∃m,W 0 m σ H1)/\∀i m σ H,W i m σ H->
 (ZdF H/\W0 H)∨(U2 H/\∃N:L2.St->Hp->Prop,(∀σ' H',N σ' H'->∃m',m'<m/\W YU m' σ' H')/\∀x H',Zaz->g x σ H' fun σ2 H2=>tb {D with nx:=N,ct:=N,bk:=D.nx} σ2 H2)
theorem zC(wi:TI)(g:TG)(tb:TS)(D:Ends)(σ:L2.St)(H:Hp):Ql wi g tb D σ H=wi σ H (λJ H1=>qu J g tb D σ H1):=rfl
theorem K9{J:It}{n:Nat}{g:TG}{tt:TT}{te:TE}{vs:Za}{σ:L2.St}{H1:Hp}{D:Addr}{Qd:Zgf}(Pv:Nat->Hp->Prop)(h0:Pv 0 (Yo D Ye))
  (pW:∀i H,i<n->Pv i H->U2 H) (aT:∀H,Pv n H->J.stop n H)
  (hs:∀i x H H',i<n->Pv i H->Zaz->Zi3 H' fun σ2 H2=>wipe σ2 vs=XT vs/\tt σ2 H2 λb H3=>
   if b=true then te σ2 H3 λy H4=>∃acc,H4 D=some (.lst acc)/\acc.length<sizeLine/\Pv (i+1) (upd H4 D (.lst (acc++[y])))else Pv (i+1) H3) (hd:∀H,Pv n H->Qd H):
  ∃W:Nat->Nat->Hp->Prop,(∃m,ZmF)/\∀i m H,W i m H->
   (ZdF H/\Qd H)∨(U2 H/\∃Nx:Hp->Prop,(∀H',Nx H'->∃m',m'<m/\W YU m' H')/\∀x H',Zaz->Zi3 H' fun σ2 H2=>wipe σ2 vs=XT vs/\tt σ2 H2 λb H3=>
    if b=true then te σ2 H3 λy H4=>∃acc,H4 D=some (.lst acc)/\acc.length<sizeLine/\Nx (upd H4 D (.lst (acc++[y])))else Nx H3):=by
 refine⟨λi m H=>m=n-i/\i<=n/\Pv i H,⟨n,Zf,ZI,h0⟩,?_⟩;rintro i m H ⟨rfl,hi,p⟩;by_cases bG:i<n
 ·exact .inr ⟨pW i H bG p,Pv YU,λH' p'=>ZsH,λx H' y=>hs i x H H' bG p y⟩
 ·have e:i=n:=by omega
  subst e;exact .inl ⟨aT H p,hd H p⟩
theorem uT{J:It}{n:Nat}{g:TG}{tb:TS}{D:Ends}{σ:L2.St}{H:Hp}(Pv:Zag)(h0:ZaM)
  (pW:∀i σ H,i<n->X6->U2 H) (aT:∀σ H,Pv n σ H->J.stop n H)
  (hs:∀i x σ H H',i<n->X6->Zaz->g x σ H' fun σ2 H2=>tb {D with nx:=Pv (i+1),ct:=Pv (i+1),bk:=D.nx} σ2 H2) (hd:∀σ H,Pv n σ H->W0 H):
  qu J g tb D σ H:=by
 refine⟨λi m σ H=>m=n-i/\i<=n/\X6,⟨n,Zf,ZI,h0⟩,?_⟩;rintro i m σ H ⟨rfl,hi,p⟩;by_cases bG:i<n
 ·exact .inr ⟨pW i σ H bG p,Pv YU,fun σ' H' p'=>ZsH,λx H' y=>hs i x σ H H' bG p y⟩
 ·have e:i=n:=by omega
  subst e;exact .inl ⟨aT σ H p,hd σ H p⟩
theorem fM{α:Type}{l:ZN}{i:Nat}(h:i<l.length):∃x,l[i]? =some x:=⟨l[i],fP h⟩
theorem lh{α:Type}{l:ZN}{i:Nat}{x:α}(h:l[i]? =some x):i<l.length:=(iQ.mp h).1
section
variable {α:Type}{K:PySem.W.Frag}{a:Addr}{xs:Ze}{zs:ZN}{g:TG}{tt:TT}{te:TE}{vs:Za}{σ:L2.St}{H1:Hp}{Q:VK}
theorem abU{keep:Zdx}{f:α->V}{i:Nat}{z:α}(hz:zs[i]? =some z):
  (((zs.take YU).filter keep).map f)=((zs.take i).filter keep).map f++(if keep z=true then [f z]else []):=by
 rw[dA hz,vv,cA];congr 1;by_cases h:keep z=true
 ·simp[h]
 ·simp[h]
def yN(g:TG)(tt:TT)(te:TE)(vs:Za)(σ:L2.St)(x:V)(H':Hp)(Hs:Hp)(k:Bool)(v:V):Prop:=
 ∀(R:V->Hp->Prop) (S:Zgf),(k=true->∀nE,ah Hs nE->R v nE)->(k=false->∀nE,ah Hs nE->S nE)->
  g x (XT vs) H' fun σ2 H2=>wipe σ2 vs=XT vs/\tt σ2 H2 λb H3=>if b=true then te σ2 H3 R else S H3
theorem Ay{J:It}(hlen:ZeE)(keep:Zdx)(f:α->V)
  (pW:∀i H,i<zs.length->Yc H->U2 H) (aT:∀H,Yc H->J.stop zs.length H)
  (hy:∀i x z H H',zs[i]? =some z->Yc H->Zaz->ZcO x H' H (keep z) (f z))
  (q:ZjH):
  oU J g tt te vs σ Q H1:=by
 intro D hD;refine Zmy (λi H=>Yc H/\H D=some (.lst (((zs.take i).filter keep).map f))) ⟨a0 hD,au⟩ (λi H hi p=>pW i H hi p.1) (λH p=>aT H p.1) ?_ (λH p=>?_)
 ·rintro i x H H' hi ⟨s1,hd⟩ y;obtain⟨z,hz⟩:=fM hi;refine hy i x z H H' hz s1 y _ _ (λhk nE s2=>?_) (λhk nE s2=>?_)
  ·refine⟨_,Zgc,?_,bV YN hD (gf Zgc),?_⟩
   ·have h1:=eZ keep (zs.take i);have h2:=sz;rw[aq];rw[eY]at h1;omega
   ·rw[au,abU hz,af hk]
  ·refine⟨YN,?_⟩;rw[s2.at hd,abU hz,ae (by rw[hk];simp),fc]
 ·refine q D H hD p.1 ?_;rw[p.2,eg]
theorem e8(hx:Ux)(he:ZhJ)(hlen:ZeE)(keep:Zdx)(f:α->V)
  (hy:∀(i:Nat) x z H,xs[i]? =some x->zs[i]? =some z->Yc H->ZcO x H H (keep z) (f z))
  (q:ZjH):
  oU ZdD g tt te vs σ Q H1:=by
 refine Zoh
 ·ext ad;exact⟨xs,x,Zgp,ex⟩
 ·ext T;exact hy i x z _ (y xs Zgp) hz s
theorem Ew(hx:Ux)(he:ZhJ)(hlen:ZeE)(keep:Zdx)(f:α->V)
  (hy:∀i x z H T,xs[i]? =some x->zs[i]? =some z->Yc H->H T=none->ZcO (.ref T) ZsP H (keep z) (f z))
  (q:ZjH):
  oU (Hk K a) g tt te vs σ Q H1:=by
 refine Zoh
 ·ext ad;exact⟨xs,x,Zgp,ex⟩
 ·obtain⟨T,x',e,hT,e2,y⟩:=y;subst e e2;exact hy i x' z H T (y xs Zgp) hz s hT
theorem abA{n:Nat}(hlen:n<=16777000)(keep:ZbP)(f:Nat->V)
  (hy:∀i H,i<n->Yc H->ZcO (nat i) H H (keep i) (f i))
  (q:∀D H',H1 D=none->V3->H' D=some (.lst (((List.range n).filter keep).map f))->ZdH):
  oU (Hi 0 n) g tt te vs σ Q H1:=by
 have hn:(List.range n).length =n:=eM;refine Ay (zs:=List.range n) (by rw[hn];exact hlen) keep f (λi H hi s=>by rw[hn]at hi;exact hi) (λH s=>by rw[hn];exact ZC) ZkJ q;obtain⟨e,y⟩:=y;subst e y;obtain⟨hi,e⟩:=iQ.mp hz;rw[List.getElem_range]at e;subst e;rw[hn]at hi;have e2:V.int (0+(i:Int))=nat i:=by unfold nat;rw[Int.zero_add]
 rw[e2];exact hy i _ hi s
theorem alB{d:Addr}{o:Obj}{kvs:Yb}(hx:H1 d=some Zdc)(hlen:kvs.length<=16777000)(keep:Key×V->Bool)(f:Key×V->V)
  (hy:∀(i:Nat) z H,kvs[i]? =some z->Yc H->ZcO (kV z.1) H H (keep z) (f z))
  (q:∀D H',H1 D=none->V3->H' D=some (.lst ((kvs.filter keep).map f))->ZdH):
  oU ZiM g tt te vs σ Q H1:=by
 refine Ay hlen keep f (λi H hi s=>⟨s.at hx,hi⟩) (λH s=>⟨s.at hx,ZC⟩) ZkJ q;obtain⟨e,k,v,hk,e2⟩:=y;subst e e2;rw[hk]at hz;cases hz
 exact hy i (k,v) _ hk s
theorem K8{x:Str}(hlen:x.cps.size<=16777000)(keep:ZbP)(f:Nat->V)
  (hy:∀(i:Nat) c H,x.cps.toList[i]? =some c->Yc H->ZcO (.str ZbV) H H (keep c) (f c))
  (q:∀D H',H1 D=none->V3->H' D=some (.lst ((x.cps.toList.filter keep).map f))->ZdH):
  oU (Pk x) g tt te vs σ Q H1:=by
 refine Ay (zs:=x.cps.toList) hlen keep f (λi H hi s=>hi) (λH s=>ZC) (λi y z H H' hz s yy=>?_) q;obtain⟨e,c,hc,e2⟩:=yy;subst e e2;have fI:x.cps.toList[i]? =some c:=by simpa using hc
 rw[fI]at hz;cases hz
 exact hy i _ _ fI s
end
section
variable {K:PySem.W.Frag}{a:Addr}{xs:Ze}{g:TG}{tb:TS}{D:Ends}{σ:L2.St}{H:Hp}
theorem gH(xs:Ze)(Pv:Zag)(h0:ZaM)(hl:Zkb)
  (hs:Zn5) (hd:Zcl):qu ZdD g tb D σ H:=by
 refine Zgx
 ·ext Z
 ·ext T;exact Zsq
theorem aow(xs:Ze)(Pv:Zag)(h0:ZaM)(hl:∀i σ H,i<=xs.length->X6->VJ)
  (hs:Zn5) (hd:Zcl):qu (Pj K a) g tb D σ H:=by
 refine Zgx
 ·ext Z
 ·ext T;exact Zsq
theorem adk{d:Addr}{o:Obj}(kvs:Yb)(Pv:Zag)(h0:ZaM)(hl:∀i σ H,i<=kvs.length->X6->H d=some Zdc)
  (hs:∀(i:Nat) z σ H,kvs[i]? =some z->X6->g (kV z.1) σ H fun σ2 H2=>tb {D with nx:=Pv (i+1),ct:=Pv (i+1),bk:=D.nx} σ2 H2) (hd:∀σ H,Pv kvs.length σ H->W0 H):qu ZiM g tb D σ H:=by
 refine uT (n:=kvs.length) Pv h0 (λi σ H hi p=>⟨Zbm p,hi⟩) (fun σ H p=>⟨Zfl p,ZC⟩) Zg8 hd;obtain⟨e,k,v,hk,e2⟩:=y;subst e e2;exact hs i (k,v) σ _ hk p
theorem Bq{b:Addr}(xs ys:Ze)(he:xs.length=ys.length)(Pv:Zag)(h0:ZaM)(hl:∀i σ H,i<=xs.length->X6->YO/\ZdJ)
  (hs:∀(i:Nat) x y T σ H,xs[i]? =some x->ys[i]? =some y->X6->H T=none->ZiJ (Zw T Zfm) fun σ2 H2=>tb {D with nx:=Pv (i+1),ct:=Pv (i+1),bk:=D.nx} σ2 H2) (hd:Zcl):qu (Ph K a b) g tb D σ H:=by
 refine Zps (fun σ H p=>⟨xs,ys,(Zfl p).1,(Zfl p).2,.inl ZC⟩) Zg8 hd
 ·ext ch;exact⟨xs,ys,x,y,(Zbm p).1,(Zbm p).2,ex,ey⟩
 ·obtain⟨T,x,y,e,hT,e2,y1,y2⟩:=y;subst e e2;exact hs i x y T σ H (y1 xs (Zk3 p).1) (y2 ys (Zk3 p).2) p hT
end
theorem filter_all{α:Type}(l:ZN):l.filter Xa=l:=by
 induction l with
 |nil=>rfl
 |cons a r ih=>rw[jf,af rfl,ih]
end
section
section
variable {X:Cx}
def TZ(K:PySem.W.Frag):V->Ze->Hp->VK->Prop:=λx xs H Q=>∃(a:Addr) (ys:Ze) (y:V),x=V.ref a/\xs=[y]/\Y2 a ys/\il y=true/\ys.all il=true/\Q (.int ((ys.countP λz=>jG z y:Nat):Int)) H
theorem adZ{y:V}:∀{ys:Ze} {its:Zp},Zcd its->ys.all il=true->its.countP (iL y)=ys.countP λz=>jG z y
 |_,_,.nil,_=>rfl
 |_,_,.cons r t,f=>by rw[hZ,aQ]at f;rw[Pe,Pe,adZ t f.2,Bw r f.1]
theorem ak0(K:PySem.W.Frag)(hK:X.K=K:=by rfl):oP X "list.count" (TZ K):=by
 subst hK;intro pins s σ H x xs v us Q I rx rxs h;obtain⟨a,ys,y,rfl,rfl,hs,fy,yC,q⟩:=h;cases rx
 cases rxs with
 |cons ry rt=>
  rename_i uy ut;cases rt
  ext bQ;refine qg asi ⟨_,ho,rfl⟩ PySem.F.entry_list_count (PySem.F.args_list_count_2 _ _) (SeqAt.list_countAt a its.toArray n dd sl uy (iL y)) ZoK;rw[show its.toArray.toList=its from rfl,adZ rv yC];exact Zcv
theorem ars:gJ X Zax (λxs H Q=>∃a kvs,xs=[V.ref a]/\H a=some Yt/\∀l,H l=none->Z0 (XZ Yt)):=by
 ext z;ext cd
 ext bE;refine kt_call_dict hS m Zb λh' hd hs=>?_;have hm:(s.heap.objs.size==sysModules)=false:=ip.mpr (oO I.big);have kp:∀b o,s.heap.get? b=some o->h'.get? b=some o:=λb o e=>(Zbb (eB YL)).trans XU;exact⟨Ys,Wl Yt,ZlP kp ZC (show WL _ _ _ Yt from⟨hz,hm,vs,z0,hd⟩),rfl,q _ X1⟩
theorem abT{P:Program}{w:World}:∀{kvs:Yb} {us:Zp},us.length=kvs.length->(∀(j:Nat) u,us[j]? =some u->∃k x,kvs[j]? =some (k,x)/\pJ k u=true)->Vals Zhh us
 |[],us,hl,_=>by
  cases us with
  |nil=>exact .nil
  |cons a r=>simp at hl
 |kv::r,us,hl,h=>by
  cases us with
  |nil=>simp at hl
  |cons u t=>
   refine .cons ?_ (abT (P:=P) (w:=w) (by simpa using hl) λj v e=>h (j+1) v e);obtain⟨k,x,e,hk⟩:=h 0 u rfl;have e':kv=(k,x):=bY e;subst e';rcases mW hk with⟨i,t,rfl,rfl⟩|⟨z,t,rfl,rfl⟩
   ·exact Vl
   ·exact Vl
theorem arl(hc:XA):gJ X Yk (λxs H Q=>∃a kvs,xs=[V.ref a]/\H a=some Yt/\∀l,H l=none->Z0 (XZ (.lst Zhh))):=by
 ext z;ext cd
 ext bE;obtain⟨ep,x9⟩:=m.dictAt;refine PySem.W.kdl_call (PySem.W.kdl_dict (knd:=Zbw) (kvs:=vs) (ep:=ep) hS) YR x9 Zb λh' tk F7 c' hk hD rS=>?_;have hv:Vals Zhh F7.toList:=by refine abT (P:=X.prog) (w:=X.w) (by rw[oV,rS.1];omega) λj u hu=>?_;obtain⟨k,x,hx,hk⟩:=rS.2 j u (by rw[←af4];exact hu);obtain⟨kv,e1,e2,e3⟩:=Aj z0 hx;refine⟨k,kv.2,?_,hk⟩;rw[e1];exact cb some (Prod.ext e2 rfl)
 refine⟨Ys,_,Znf hk ZC (show WL _ h' _ (.lst Zhh)from⟨by rw[aq];exact hz,F7.toList,c',hv,by simpa using hD⟩),rfl,q _ X1⟩
def wU(K:PySem.W.Frag):V->V->Hp->VK->Prop:=λx y H Q=>∃p xs i v,x=.ref p/\y=nat i/\Y2 p xs/\xs[i]? =some v/\Q v H
theorem anU(K:PySem.W.Frag)(hK:X.K=K:=by rfl):aeM X (wU K):=by
 subst hK;ext m;obtain⟨p,xs,i,z,rfl,rfl,hq,he,q⟩:=h;cases rx
 ext aA;ext am;obtain⟨w,ew,kT⟩:=r.get he;have hl:=r.length;have hn:=tZ;have hi:i<xs.length:=(iQ.mp he).1;exact wpAny_getItem_list (x:=w) (k:=(i:Int)) (Q:=YB) pl.isList (Pn i) Zb (by simpa using ew) ⟨z,H,I,kT,q⟩
end
end
section
section
variable {X:Cx}
def ahY:R2:=λx y H Q=>∃a b xs ys,x=V.ref a/\y=V.ref b/\H a=some Zh0/\H b=some (.lst (nats ys))/\Q (.bl (xs != ys)) H
def iA(ns:Za):List PyData:=ns.map λ(n:Nat)=>PyData.int (n:Int)
theorem NK(K:PySem.W.Frag)(H:Hp):∀ns:List Nat,vD K H (nats ns) (iA ns)
 |[]=>.nil
 |n::r=>ZnD (NK K H r)
theorem adz:∀xs ys:List Nat,PyData.eqvAll (iA xs) (iA ys)=(xs==ys)
 |[],[]=>by simp[iA,PyData.eqvAll]
 |[],_::_=>by simp[iA,PyData.eqvAll]
 |_::_,[]=>by simp[iA,PyData.eqvAll]
 |x::r,y::t=>by
  have ih:=adz r t;unfold iA at ih⊢;rw[cw,cw];simp only[PyData.eqvAll,PyData.eqv];rw[ih];show(((x:Int)==(y:Int))&&(r==t))=((x==y)&&(r==t));congr 1;by_cases h:x=y
  ·subst h;simp
  ·have h1:((x:Int)==(y:Int))=false:=ip.mpr λq=>h (mE q);have h2:(x==y)=false:=ip.mpr h;rw[h1,h2]
theorem RC(ns:Za):SeqAt.shaped (.list (iA ns))=true:=by
 unfold SeqAt.shaped;rw[aQ,bX];ext b
 ·have:∀ns:List Nat,PyData.canLayAll0 (iA ns)=true:=by
   intro ns
   induction ns with
   |nil=>simp[iA,PyData.canLayAll0]
   |cons a r ih=>
    unfold iA at ih⊢;simp only[cw,PyData.canLayAll0,PyData.canLay0,ih,Bool.and_self]
  simp only[PyData.canLay0];exact this ns
 ·have:∀ns:List Nat,PyData.depthAll (iA ns)<=1:=by
   intro ns
   induction ns with
   |nil=>simp[iA,PyData.depthAll]
   |cons a r ih=>
    unfold iA at ih⊢;simp only[cw,PyData.depthAll,PyData.depth];omega
  have h:=this ns;simp only[PyData.depth];omega
theorem aiQ(hu:Zmh):Zlb ahY:=by
 ext m;obtain⟨a,b,xs,ys,rfl,rfl,ha,hb,q⟩:=h;refine aiR hu pins s σ H _ _ v u Q I rx ry ⟨.list (iA xs),.list (iA ys),.lst Xg (NK _ _ _),.lst (ag.of hb) (NK _ _ _),RC _,RC _,?_⟩;have e:PyData.eqv (.list (iA xs)) (.list (iA ys))=(xs==ys):=by simp only[PyData.eqv];exact adz xs ys
 rw[e];exact q
end
end
section
def Pg(K:PySem.W.Frag)(a b c:Addr):It:=
 ⟨λi H=>∃(xs ys us:Ze) (x y u:V),YO/\ZdJ/\Y2 c us/\xs[i]? =some x/\ys[i]? =some y/\us[i]? =some u,
  λi H v H'=>∃T x y u,v=.ref T/\H T=none/\H'=Zw T Ze6/\(∀xs,YO->xs[i]? =some x)/\(∀ys,ZdJ->ys[i]? =some y)/\∀us,Y2 c us->us[i]? =some u,
  λi H=>∃xs:List V,ag K H a xs/\xs.length<=i⟩
theorem agA{P:Program}{w:World}{K:PySem.W.Frag}{elts:Ya}{kk:Nat}{fQ:Pos}{a b c z TI TO i1 i2 i3:Addr}(D:zj z TI TO i1 i2 i3 a b c):
  Turn P w K VC (Pg K a b c) [z,TI,TO,i1,i2,i3] z (λi h=>IsZip h z TI TO .none /\iu h TI (.ref i1) (.ref i2) (.ref i3)/\(∃x y u,iu h TO x y u)/\h.IsListIter i1 a i/\h.IsListIter i2 b i/\h.IsListIter i3 c i) where
 mem:=by simp
 obj:=λi h st d hd=>by
  obtain⟨hz,dY,⟨x,y,u,fJ⟩,⟨o1,e1,_,d1⟩,⟨o2,e2,_,d2⟩,⟨o3,e3,_,d3⟩⟩:=st;have e':d=z∨d=TI∨d=TO∨d=i1∨d=i2∨d=i3:=by simpa using hd
  rcases e' with q|q|q|q|q|q<;>rw[q]
  ·exact Ztq
  ·exact Zto
  ·exact Ztp
  ·exact Zqh
  ·exact Zqi
  ·exact⟨o3,e3,λv q=>by rw[d3]at q;cases q⟩
 keep:=λi h h' st k=>by obtain⟨hz,dY,⟨x,y,u,fJ⟩,h1,h2,h3⟩:=st;exact⟨k z Zf _ hz,k TI Zf _ dY,⟨x,y,u,k TO Zf _ fJ⟩,h1.at λo q=>k i1 Zf o q,h2.at λo q=>k i2 Zf o q,h3.at λo q=>k i3 Zf o q⟩
 item:=by
  ext J;obtain⟨hz,dY,⟨x0,y0,u0,fJ⟩,h1,h2,h3⟩:=st;obtain⟨xs,ys,us,x,y,u,iH,m6,EY,hx,hy,hu⟩:=hg;ext aR;obtain⟨alT,Tz,p3,_⟩:=I.list EY;obtain⟨v1,e1,r1⟩:=Zgn;obtain⟨v2,e2,r2⟩:=tp.get hy;obtain⟨v3,e3,r3⟩:=Tz.get hu;have cE:z<s.heap.objs.size:=bT hz;refine akJ D hz dY fJ h1 h2 h3 p.isList p2.isList p3.isList (x:=v1) (y:=v2) (u:=v3) (by simpa using e1) (by simpa using e2) (by simpa using e3) λh' z' Ow j1 j2 j3 hT hsz hk=>?_;refine ZoV;have kb:=dy.one sb;have one:∀{a b:Addr},a≠b->a∉[b]:=λh q=>h (bo.mp q);have uJ:jF.get? s.heap.objs.size=some {cls:=Xz,data:=.seq #[v1,v2,v3]}:=kb _ _ ZnW hT;have new:WL (Wl Ze6) jF s.heap.objs.size Ze6:=⟨by show 3<=sizeLine;decide,[v1,v2,v3],.cons r1 (.cons r2 (.cons r3 .nil)),ZhC⟩;have I1:ZU (Wl Ze6) {s with heap:=jF}:=
   I.CH (t':=s.toks) (ch:=[z,TI,TO,i1,i2,i3]) (λd o hb q=>kb d o (λq'=>hb (by rw[bo.mp q'];simp)) Zof) hf ZC new
  refine⟨Ys,_,I1,rfl,⟨_,x,y,u,rfl,X1,rfl,λl hl=>ZsU,λl hl=>ZsV,λl hl=>by rw[I.rj hl EY];exact hu⟩,⟨Ht,?_,⟨v1,v2,v3,kb _ _ Zm3 Ow⟩,kb.iter Zif j1,kb.iter Zm4 j2,kb.iter Zm5 j3⟩,λd uF=>?_⟩
  ·refine kb _ _ (one D.PL.symm) (hk _ _ (λq=>?_) dY);simp only[aJ,mv,lV]at q;rcases q with q|q|q|q|q
   ·exact D.PL q.symm
   ·exact D.TITO q
   ·exact D.TI1 q
   ·exact D.TI2 q
   ·exact D.TI3 q
  ·have bG:d<s.heap.objs.size:=by
    have e':d=z∨d=TI∨d=TO∨d=i1∨d=i2∨d=i3:=by simpa using uF
    rcases e' with q|q|q|q|q|q<;>rw[q]
    ·exact cE
    ·exact bT dY
    ·exact bT fJ
    ·obtain⟨_,e1,_⟩:=h1;exact bT e1
    ·obtain⟨_,e2,_⟩:=h2;exact bT e2
    ·obtain⟨_,e3,_⟩:=h3;exact bT e3
   rw[ax (eB bG)];exact(hf d uF).1
 done:=by intro X hP hw hK hc i pins s σ H E I hf st hg;subst hP hw hK;obtain⟨hz,dY,⟨x0,y0,u0,fJ⟩,h1,h2,h3⟩:=st;obtain⟨xs,iH,acP⟩:=hg;obtain⟨its,rv,p,_⟩:=I.list iH;have l1:=rv.length;refine akI (a:=x0) (b:=y0) (c:=u0) YR D hz dY h1 p.isList (by simp;omega) λh' hk=>⟨rfl,I.Qa (t':=s.toks) (ch:=[z,TI,TO,i1,i2,i3]) (λd o hb q=>Zof) hf⟩
 self:=λA i s Q E st h=>Hz st.1 h
def EK(K:PySem.W.Frag)(ta:TA):TI:=fun σ H R=>Xc H λvs H1=>∃a b c xs ys us,vs=[.ref a,.ref b,.ref c]/\Ux/\ag K H1 b ys/\ag K H1 c us/\R (Pg K a b c) H1
theorem ar1(I l1 l2 l3:Nat)(h1:l1<I)(h2:l2<I)(h3:l3<I):zj (I+5) (I+3) (I+4) I (I+1) (I+2) l1 l2 l3:=by
 have off:∀l:Nat,l<I->l∉[I+5,I+4,I,I+1,I+2]:=λl h q=>by simp only[aJ,mv,lV]at q;omega
 have ne:∀a b:Nat,a≠b->(I+a:Nat)≠I+b:=λa b h q=>h (Nat.add_left_cancel q);exact⟨ne 5 3 Zj,ne 5 4 Zj,ne 5 0 Zj,ne 5 1 Zj,ne 5 2 Zj,ne 3 4 Zj,ne 3 0 Zj,ne 3 1 Zj,ne 3 2 Zj,ne 4 0 Zj,ne 4 1 Zj,ne 4 2 Zj,ne 0 1 Zj,ne 0 2 Zj,ne 1 2 Zj,off _ h1,off _ h2,off _ h3⟩
theorem aih{X:Cx}{e e2 e3:Expr}{ta:TA}{p pos fQ:Pos}{elts:Ya}{kk:Nat}(K:PySem.W.Frag)(hg:Gl X "zip")(hm:Znm)(ha:PA X [e,e2,e3] ta)(hK:X.K=K:=by rfl)
  (hs:starEach [e,e2,e3] X.env=(false,Yz)::starEach [e2,e3] X.env:=by rfl) (cC:(Xb (starEach [e2,e3] X.env)).any Zh=false:=by rfl):
  PI X VC (.Call (.Name "zip" p) [e,e2,e3] [] pos) (EK K ta):=by
 subst hK;ext w;refine Zsv;obtain⟨a,b,c,xs,ys,us',ex,iH,m6,EY,q⟩:=q1;subst ex;cases r1 with
 |cons r rr=>
  cases rr with
  |cons r' rr=>
   cases rr with
   |cons r'' rr=>
    cases rr
    cases r
    cases r'
    cases r''
    ext cb;obtain⟨alT,Tz,p3,_⟩:=I1.list EY;refine aq8 p1.isList p2.isList p3.isList λh' hz dY fJ h1 h2 h3 hsz hk=>Hz hz ?_;have I2:ZU H1 {s1 with heap:=h'}:=ZkX;refine⟨s1.heap.objs.size+5,[s1.heap.objs.size+5,s1.heap.objs.size+3,s1.heap.objs.size+4,s1.heap.objs.size,s1.heap.objs.size+1,s1.heap.objs.size+2],_,_,H1,rfl,I2,agA (ar1 s1.heap.objs.size a b c p1.lt p2.lt p3.lt),⟨hz,dY,⟨_,_,_,fJ⟩,h1,h2,h3⟩,λd uF=>?_,q⟩;have hle:s1.heap.objs.size<=d:=by
     have e':d=s1.heap.objs.size+5∨d=s1.heap.objs.size+3∨d=s1.heap.objs.size+4∨d=s1.heap.objs.size∨d=s1.heap.objs.size+1∨d=s1.heap.objs.size+2:=by simpa using uF
     rcases e' with z|z|z|z|z|z<;>rw[z]<;>first |exact aU _|exact y9 _ _
    exact ZkA
section
variable {K:PySem.W.Frag}{a:Addr}{g:TG}{tb:TS}{D:Ends}{σ:L2.St}{H:Hp}
theorem aov{b c:Addr}(xs ys us:Ze)(he:xs.length=ys.length)(he2:xs.length=us.length)(Pv:Zag)(h0:ZaM)(hl:∀i σ H,i<=xs.length->X6->YO/\ZdJ/\Y2 c us)
  (hs:∀(i:Nat) x y u T σ H,xs[i]? =some x->ys[i]? =some y->us[i]? =some u->X6->H T=none->ZiJ (Zw T Ze6) fun σ2 H2=>tb {D with nx:=Pv (i+1),ct:=Pv (i+1),bk:=D.nx} σ2 H2) (hd:Zcl):qu (Pg K a b c) g tb D σ H:=by
 refine Zps (fun σ H p=>⟨xs,(Zfl p).1,ZC⟩) Zg8 hd
 ·ext ch;obtain⟨u,eu⟩:=fM (l:=us) (i:=i) Zb;obtain⟨q1,q2,q3⟩:=Zbm p;exact⟨xs,ys,us,x,y,u,q1,q2,q3,ex,ey,eu⟩
 ·obtain⟨T,x,y,u,e,hT,e2,y1,y2,y3⟩:=y;subst e e2;obtain⟨q1,q2,q3⟩:=Zbm p;exact hs i x y u T σ H (y1 xs q1) (y2 ys q2) (y3 us q3) p hT
end
end
section
structure qo(K:PySem.W.Frag)(a:Addr)(fs:X3):Prop where
 ex:∃o es ep,K.lookup a=some o/\o.ExactDict/\o.data=ZaW ep/\ZjF es.toList fs
 nd:(fs.map Zh).Nodup
def Bp(fs:X3):ZeR:=fs.map λz=>(Sum.inl z.1,.ref z.2)
theorem qo.dict{K:PySem.W.Frag}{a:Addr}{fs:X3}(D:qo K a fs)(P:Program)(w:World){h:Heap}(X:Vw):Ziy (Bp fs):=by
 obtain⟨o,es,ep,h1,h2,h3,h4⟩:=D.ex;refine⟨o,es,ep,X _ _ h1,h2,h3,λe he=>?_,?_,?_⟩
 ·obtain⟨n,hn,hm⟩:=y_.mp (show e∈es.toList by simpa using he);have:es.toList[n]? =some e:=by rw[fP hn,hm]
  clear he hn hm;have key:∀(l:List DictEntry) (m:X3),ZjF l m->∀(n:Nat),l[n]? =some e->∃z:Int×Addr,e.hash=hashInt z.1/\∃t,e.key=.int z.1 t:=by
   intro l m hp
   induction hp with
   |nil=>intro n hn;simp at hn
   |cons q t ih=>
    intro n hn;cases n with
    |zero=>
     have:=bY hn;subst this;exact⟨_,q.1,q.2.1⟩
    |succ n=>exact ih n hn
  obtain⟨z,e1,t,e2⟩:=key _ _ h4 n this;exact⟨Sum.inl z.1,by rw[e2];exact KP P w z.1 t,e1⟩
 ·clear h1 h2 h3 D;generalize es.toList=l at h4;unfold Bp
  induction h4 with
  |nil=>exact .nil
  |cons q t ih=>
   obtain⟨_,⟨tk,e2⟩,e3⟩:=q;exact .cons (by rw[e2];exact KP P w _ tk) e3 ih
 ·unfold Bp;rw[bz];have:((λx:Key×Value=>x.1)∘λz:Int×Addr=>((Sum.inl z.1:Key),Value.ref z.2))=(λz:Int×Addr=>(Sum.inl z.1:Key)):=rfl;rw[this];have key:∀l:List (Int×Addr),(l.map Zh).Nodup ->(l.map λz=>(Sum.inl z.1:Key)).Nodup :=by
   intro l
   induction l with
   |nil=>intro _;exact sq
   |cons z r ih=>
    intro hn;obtain⟨n1,n2⟩:=Zb9;refine df.mpr ⟨λm=>n1 ?_,ih n2⟩;obtain⟨y,hy,e⟩:=aO.mp m;exact aO.mpr ⟨y,hy,oN e⟩
  exact key fs D.nd
theorem qo.val{fs:X3}:∀{n:Int} {f:Addr},(fs.map Zh).Nodup ->(n,f)∈fs->valueAt (Bp fs) (Sum.inl n:Key)=some Yn:=by
 induction fs with
 |nil=>intro n f _ hm;cases hm
 |cons z r ih=>
  intro n f hn hm;obtain⟨n1,n2⟩:=Zb9;show(((Sum.inl z.1,Value.ref z.2)::Bp r).find? λkv=>kv.1=(Sum.inl n:Key)).map ZZ=_;rw[oR];rcases aJ.mp hm with e|e
  ·rw[←e];simp
  ·have:¬(Sum.inl z.1:Key)=Sum.inl n:=λq=>n1 (by show z.1∈_;rw[oN q];exact aO.mpr Zc0)
   rw[aX this];exact ih n2 e
section
variable {X:Cx}
def Qm(fs:X3)(ti:TE):TE:=fun σ H Q=>ti σ H λy H1=>∃n f,y=.int n/\(n,f)∈fs/\Q Yn H1
theorem aiB{i:Expr}{ti:TE}{pos p:Pos}{x:Str}{a:Addr}{fs:X3}(K:PySem.W.Frag)(D:qo K a fs)(hm:X.mg x=some ZY)(hg:XX)(hi:Zt i ti)(hs:OS i)(hK:X.K=K:=by rfl)(hd:(x==("__debug__":Str))=false:=by decide):
  PE X (.Subscript (.Name x p) i pos) (Qm fs ti):=by
 subst hK;ext f;refine Qs asj.lookup hs (aN (DY hm hg hd pins s σ H (λv H'=>v=.ref a/\ti σ H' λy H1=>∃n f,y=.int n/\(n,f)∈fs/\Q Yn H1) I ⟨rfl,h⟩) λu s1 ⟨v,H1,I1,rv,ev,q1⟩=>aN Zg7 λiv s2 ⟨y,H2,I2,ry,n,f,ey,jy,q2⟩=>?_);subst ev;obtain rfl:u=Value.ref a:=rv;subst ey;have dd:=D.dict X.prog X.w I2.ku;exact⟨dd.typeIs,wpAny_getItem_of (ub (k:=Sum.inl n) ry) dd.mapOf (qo.val D.nd jy) ⟨Yn,H2,I2.tok _,rfl,q2⟩⟩
def Qn(sx:V->Sp->Prop)(tf:TE)(ta:TA):TE:=fun σ H Q=>tf σ H λx H1=>∃sp,sx x sp/\Xc H1 λvs H2=>sp vs H2 Q E0
theorem aiC{sx:V->Sp->Prop}{o i e:Expr}{es:Ya}{tf:TE}{ta:TA}{pos p:Pos}{j:Nat}(hr:eA j X.A)(hc:∀x sp,sx x sp->∃f fd ps,x=.ref f/\aM X.prog X.w X.K X.mg X.base aP j f fd ps sp/\PySem.W.keepIn X.K Yn=true/\Binds X.K fd ps [])(hf:Zt (Zar p) tf)(ha:VG ta)
  (he:Wq X.env=(false,Yz)::VL X.env:=by rfl) (cC:(Xb WJ).any Zh=false:=by rfl):
  PE X Zse (Qn sx tf ta):=by
 ext f;have e0:eval Zse X.env=(do callWith pos (←eval (Zar p) X.env) [] (Xb (Wq X.env)) (ZbH Zhl)):=rfl;rw[e0];refine aj (aN (hf pins s σ H _ I h) λu s1 ⟨x,H1,I1,rx,sp,hx,q⟩=>?_);obtain⟨f,fd,ps,ex,F,hk,hb⟩:=hc x sp hx;subst ex;obtain rfl:u=Value.ref f:=rx;refine Zkr hk (aN (ha pos pins s1 σ H1 _ I1 q) λus s2 ⟨vs,H2,I2,r,q2⟩=>⟨I2.ku,?_⟩) he cC;exact TC F hr hb .nil D1 I2 r (by rw[fc];exact q2)
end
end
section
def arD(m sl:Nat):Nat:=SetTable.below (bO m).toArray sl
def agl(m:Nat):Bool:=(List.range Ua).all λi=>decide (arD m (match i with |0=>0|j+1=>(bO m).getD j 0+1)=i)
theorem agk:((List.range 256).all agl)=true:=by decide+kernel
def zK(m i:Nat):Nat:=match i with
 |0=>0
 |j+1=>(bO m).getD j 0+1
theorem arC{m i:Nat}(hm:m<256)(hi:i<=(bO m).length):SetTable.below (bO m).toArray (zK m i)=i:=by have h:=dh.mp agk m (dS.mpr hm);have h2:=dh.mp h i ZfB;exact lX h2
def Hl(es:WK)(m:Nat):Prop:=es.size=(bO m).length /\∀(i k:Nat),(bO m)[i]? =some k->∃tk:Nat,es[i]? =some ((k:Int),ZmE tk)
section
variable {prog:Program}{w:World}{A:Around}{E:Zu}{s:Shared}{a it:Addr}{es:WK}{ep:Nat}
def iB(w:World)(a:Addr)(ep:Nat)(es:WK):WK:=if w.params.followText "set-order"=true then pickOrder ZkT es else es
def nQ(w:World)(m i:Nat):Nat:=if w.params.followText "set-order"=true then 0 else zK m i
theorem aaU{m i:Nat}{Q:Zj9}(hm:m<256)(he:Hl es m)(hi:i<=(bO m).length)(x:ZcH (cH m ZgD))(hf:Zkw)
  (h:Q (((VN es)[i]?).map λe=>(e.2,nQ w m YU)) s):YF (setNext a (nQ w m i) i ep) Q E s:=by
 obtain⟨o,ho,hx,hd⟩:=id x;unfold setNext;refine aj (Zjf ?_);refine aj (Hu ?_);cases hb:w.params.followText "set-order"with
 |true=>
  have e1:VN es=pickOrder ZkT es:=by unfold iB;rw[af hb]
  have e2:∀j,nQ w m j=0:=λj=>by unfold nQ;rw[af hb]
  rw[e1,e2]at h;rw[e2,af rfl];ext i;rw[ae Zf];unfold setWalk;refine aj (aj (Zjf (aj (Hu ?_))));rw[af hb];exact aj (P2 (aL (aL h)))
 |false=>
  have e1:VN es=es:=by unfold iB;rw[ae (by rw[hb];simp)]
  have e2:∀j,nQ w m j=zK m j:=λj=>by unfold nQ;rw[ae (by rw[hb];simp)]
  rw[e1,e2]at h;rw[e2,ae Zf];ext i;refine aeH (λhh=>absurd (show false=true from hh) eh) (λ_=>?_);refine Zp8;have e3:SetTable.below (cH m !false).place (zK m i)=i:=arC hm hi;rw[e3];have e4:(cH m !false).place[i]? =(bO m)[i]? :=by show(bO m).toArray[i]? =_;simp
  rw[e4];by_cases bG:i<(bO m).length
  ·obtain⟨k,hk⟩:∃k,(bO m)[i]? =some k:=⟨_,fP bG⟩;obtain⟨tk,ht⟩:=he.2 i k hk;have e5:zK m YU=k+1:=by show(bO m).getD i 0+1=k+1;rw[jL,hk];rfl
   rw[hk,ht];rw[ht,e5]at h;exact aL h
  ·have hk:(bO m)[i]? =none:=Cp Zb;have ht:es[i]? =none:=PJ (by rw[he.1];omega);rw[hk,ht];rw[ht]at h;exact aL h
theorem ady{α:Type}:∀(l:ZN) (n:Nat) (h:n<l.length),(l[n]::l.eraseIdx n).Perm l
 |a::r,0,h=>Pf _
 |a::r,n+1,h=>by
  have hn:n<r.length:=by simpa using h
  have ih:=ady r n hn;show(r[n]::a::r.eraseIdx n).Perm (a::r);exact(List.Perm.swap a _ _).trans (ih.cons a)
theorem ac2(next:Nat->Nat):∀(fuel k:Nat) (left:List (Int×Value)) (out:WK),left.length<=fuel->(pickOrder.go next fuel k left out).toList.Perm (out.toList++left)
 |0,k,left,out,h=>by have:left=[]:=Cn.mp Zb;subst this;unfold pickOrder.go;rw[fc]
 |fuel+1,k,left,out,h=>by
  unfold pickOrder.go;by_cases h0:left=[]
  ·subst h0;simp
  ·have hl:0<left.length:=sv.mpr h0;have bG:next k % left.length<left.length:=Nat.mod_lt _ hl
   rw[fP bG];ext i;refine(ac2 next fuel (k+1) _ _ (by rw[List.length_eraseIdx_of_lt bG];omega)).trans ?_;rw[Array.toList_push,eC];refine List.Perm.append_left _ ?_;exact ady left _ bG
theorem aaB(w:World)(a:Addr)(ep:Nat)(es:WK):(VN es).toList.Perm es.toList:=by
 unfold iB;split
 ·have:=ac2 ZkT es.size 0 es.toList #[] (by rw[oV];exact ZC);simpa[pickOrder]using this
 ·exact Pf _
theorem Ko(w:World)(a:Addr)(ep:Nat)(es:WK):(VN es).size =es.size:=by have:=(aaB w a ep es).length_eq;simpa using this
theorem avw{m:Nat}{led:Bool}(he:es.size=(bO m).length)(hf:(cH m led).fits (bO m).length =true):(cH m led).fits es.size=true:=by rw[he];exact hf
theorem agu{m:Nat}(hh:Vc)(hm:m<256)(he:Hl es m)(hf:Zkw)(I:Addr)(aK:a≠I):
  Walks prog w A I [I,a] [I] es.size Zpo (λi h=>vd h I a es.size ep (nQ w m i) i/\j_ h a es ep (cH m ZgD)) where
 sub:=λb hb=>by simp at hb;simp[hb]
 frame:=λi h h' st hk=>by obtain⟨⟨o,e1,e2⟩,⟨o',e3,e4⟩⟩:=st;exact⟨⟨o,hk I Zf o e1,e2⟩,⟨o',hk a Zf o' e3,e4⟩⟩
 item:=λi s Q E hi st hQ=>by
  obtain⟨x,y⟩:=st;have bG:i<(VN es).size :=by rw[Ko];exact hi
  have uC:(VN es)[i]? =some (VN es)[i]:=atA bG;refine ahE (v:=(VN es)[i].2) (sl':=nQ w m YU) x y hf (λQ' hq=>?_) λh' z sb=>?_
  ·refine aaU (s:=s) hm he (by rw[he.1]at hi;omega) y hf ?_;rw[uC];exact hq
  ·obtain⟨o',e3,e4⟩:=y;exact hQ _ h' s.toks ⟨_,uC,rfl⟩ ⟨z,o',sb.extBut a o' aK e3,e4⟩ λb o hb e=>sb.extBut b o ZtQ e
 done:=λs Q E st hQ=>by obtain⟨x,y⟩:=st;refine ahI hh x y hf (λQ' hq=>?_) λh' ex=>hQ h' s.toks λb o hb e=>ex b o ZtQ e;refine aaU (s:=s) hm he (by rw[he.1];exact ZC) y hf ?_;rw[PJ (by rw[Ko];exact ZC)];exact hq
 self:=λi s Q E st hQ=>ahx st.1 hQ
theorem ang{r:Addr}{Q:ZlF}(hT:s.TypeIs Yr "set")(h:Q false s):YF (Builtin.List.listLengthHint Yr) Q E s:=by
 unfold Builtin.List.listLengthHint;refine aj (PU hT PySem.F.slot_set_len.lookup ?_);generalize hid:("set.__len__":String)=id0
 wp_delta
 rw[show splitId id0=some ("set","__len__") by subst hid;decide+kernel];subst hid;refine aj (HF (b:=true) (T:="set") hT (by rw[ab2];kernel_rfl) ?_);refine aeH (λdc=>absurd dc Zj) (λ_=>?_);refine aeH (λ_=>?_) (λdc=>absurd ZT dc);exact aj (wpAny_typeOf hT (aL h))
theorem ahi{m:Nat}(hm:m<256)(he:Hl es m)(hf:Zkw):
  PySem.W.KdlSrc prog w "set" a a es.size Zpo (λh=>j_ h a es ep (cH m ZgD)) where
 type:=λ_ x=>x.typeIs
 there:=λ_ x=>let⟨o,ho,_⟩:=x;⟨bT ho,bT ho⟩
 keep:=λ_ _ x hk=>let⟨o,ho,r⟩:=x;⟨o,hk a Xf o ho,r⟩
 notList:=by decide
 notTuple:=by decide
 hint:=λ_ _ _ _ x hq=>ang x.typeIs hq
 iter:=λA s hh x=>by
  obtain⟨o,ho,r⟩:=id x;refine⟨_,_,λE Q hq=>ahH x hf rfl hq,agu hh hm he hf s.heap.objs.size (eB (bT ho)),Zli,⟨o,cV _ ho,r⟩⟩;have:nQ w m 0=0:=by unfold nQ;split<;>rfl
  rw[this];rfl
end
end
section
theorem ab8:∀(l:Zp) (f:Y0),(∀(j:Nat) v,l[j]? =some v->∃t,v=.int (f j) t)->IntsAre l ((List.range l.length).map f)
 |[],f,_=>.nil
 |v::r,f,h=>by obtain⟨t,rfl⟩:=h 0 v rfl;have ih:=ab8 r (λj=>f (j+1)) λj u hu=>h (j+1) u hu;rw[bb,O4,cw,bz];exact .cons _ _ ih
section
variable {prog:Program}{w:World}{A:Around}{E:Zu}{s:Shared}{T:String}{r d:Addr}{n:Nat}{P:Nat->Value->Prop}{OK:Heap->Prop}
theorem aqF{Q:Zp->Shared->Prop}(K:ZqR)(hh:Vc)(aC:OK s.heap)(hn:n<=sizeLine)
  (hQ:∀h' tk (acc:YS),(∀b o,s.heap.get? b=some o->h'.get? b=some o)->s.heap.objs.size<h'.objs.size->ItemsOf P acc n->Q acc.toList {s with heap:=h',toks:=tk}):YF (collect Yr) Q E s:=by
 obtain⟨hr,hd⟩:=K.there _ aC;unfold collect;refine aj (wpAny_runValue (yH entry_proto_collect' ?_));show V5 _ (do again (.builtin "list.__iadd__" ⟨[←newList [],.ref r],[]⟩)) _ _ s;refine aj (wpAny_newList (aL ⟨afW _ ZT,yH entry_list_iadd' ?_⟩));have hS:(s.heap.push (seqObj "list" #[] 0)).get? s.heap.objs.size=some {cls:=Yk,data:=.seq #[] 0}:=dj _ rfl;have LF:OK (s.heap.push (seqObj "list" #[] 0)):=K.keep _ _ aC λb _ o e=>XU;rw[PK (show plainId "list.__iadd__"=true by decide+kernel) _];show ZaF (Builtin.List.listExtendWith Ys Yr Ys) _ _ {s with heap:=s.heap.push (seqObj "list" #[] 0)};refine PySem.W.kdl_extend (R:=λr s'=>match r with
  | .ok (.ret v)=>V5 A (match v with
   | .ref a=>do
    match(←load a).data with
    | .seq xs _=>pure xs.toList
    |_=>unsupported "internal:collect"
   |_=>unsupported "internal:collect") Q E s'
  | .ok _=>False
  | .error e=>E e s') (s:={s with heap:=s.heap.push (seqObj "list" #[] 0)}) K hh LF s.heap.objs.size (oO hr) (oO hd) (.ref s.heap.objs.size) 0 hS (λh' tk F7 c' hk x_ rS=>?_) hn
 refine aj (wpAny_load x_ (aL (hQ h' tk F7 (λb o e=>?_) (bT x_) rS)));exact hk b o (eB YL) XU
theorem ahp{Q:Zu}(K:ZqR)(hh:Vc)(aC:OK s.heap)(hn:n<=sizeLine)(val:Y0)(hv:∀i v,P i v->∃t,v=.int (val i) t)
  (hQ:∀h' tk (D:Addr) (vs:Zp) (ns:ZK) (c:Nat),(∀b o,s.heap.get? b=some o->h'.get? b=some o)->s.heap.objs.size<=D->h'.get? D=some (seqObj "list" vs.toArray c)->IntsAre vs ns->ns.Perm ZsJ->ns.Pairwise (· <=·)->Q Vi {s with heap:=h',toks:=tk}):
  wpAny Y5 A (call ZlC [.ref r]) Q E s:=by
 refine Calls.call_function_entry kind_sorted plain_sorted entry_sorted (args_sorted1 _) ?_;unfold Builtin.«sorted»;refine aj (m:=checkCount "sorted" 1 1 _) (aL (aj (aqF (A:=A.in1) K hh aC hn λh1 zw acc gT anD rS=>?_)));have hI:IntsAre acc.toList ZsJ:=by have:=ab8 acc.toList val λj v hj=>hv j v (rS.2 j v (by rw[←af4];exact hj));rw[oV,rS.1]at this;exact this
 have acn:acc.toList.length<=sizeLine:=by rw[oV,rS.1];exact hn
 refine aj (wpAny_newList ?_ acn);have uv:(h1.push Zqd).get? h1.objs.size=some Zqd:=dj _ rfl;show V5 _ _ _ _ {s with heap:=h1.push (seqObj "list" acc.toList.toArray 0),toks:=zw};refine aj (nH (mI slot_list_sort ⟨_,uv,rfl⟩ entry_list_sort (list_sort_treeAny (s:={s with heap:=h1.push (seqObj "list" acc.toList.toArray 0),toks:=zw}) uv hI acn λout ns' a1 a2 a3=>Yy) (args_list_sort _)));refine aL Yy;obtain⟨e,he⟩:=sortedHeap_at (out:=out) uv;refine hQ _ zw h1.objs.size out.toList ns' e (λb o hb=>?_) ?_ (by simpa using he) a1 a2 a3
 ·have jC:=gT b o hb;have bG:=bT jC;rw[sortedHeap_old (eB bG) (by rw[gb];exact Ce bG)];exact cV _ jC
 ·exact iP anD
end
end
section
def el(f:UN)(k:Nat):Int×Value:=((k:Int),ZmE (f k))
def mG(es:WK)(m:Nat):Prop:=∃f,es.toList=(bO m).map (el f)
theorem mG.els{es:WK}{m:Nat}(h:mG es m):Hl es m:=by obtain⟨f,e⟩:=h;refine⟨by rw[←oV,e,aq],λi k hk=>⟨f k,?_⟩⟩;rw[←af4,e,cx,hk];rfl
theorem aa9{α β:Type}(g:α->β):∀(l:ZN) (p:Nat) (a:α),(l.insertIdx p a).map g=(l.map g).insertIdx p (g a)
 |l,0,a=>rfl
 |[],p+1,a=>rfl
 |b::l,p+1,a=>by show g b::(l.insertIdx p a).map g=g b::(l.map g).insertIdx p (g a);rw[aa9 g l p a]
theorem amc{α:Type}(es:Array α)(p:Nat)(x:α)(h:p<=es.size):(SetTable.insertAt es p x).toList =es.toList.insertIdx p x:=by
 unfold SetTable.insertAt;have:∀(l:ZN) (p:Nat),p<=l.length->l.take p++x::l.drop p=l.insertIdx p x:=by
  intro l
  induction l with
  |nil=>
   intro p hp;have:p=0:=by simpa using hp
   subst this;rfl
  |cons b r ih=>
   intro p hp;cases p with
   |zero=>rfl
   |succ p=>
    show b::(r.take p++x::r.drop p)=b::r.insertIdx p x;rw[ih p (by simpa using hp)]
 rw[←this es.toList p ZmL];simp[Array.toList_extract,List.extract_eq_drop_take];exact vn (by rw[mz,oV];exact ZC)
theorem aqY(m x:Nat)(led:Bool)(hm:m<256)(hx:x<8):gY m x led=true:=by
 have go:∀c:Nat,((List.range 32).all λm=>(List.range 8).all λx=>gY (c+m) x led)=true->c<=m->m<c+32->gY m x led=true:=λc h h1 h2=>by
  have e1:=dh.mp h (m-c) ZfB;have e2:=dh.mp e1 x (dS.mpr hx);have e3:c+(m-c)=m:=by omega
  rw[e3]at e2;exact e2
 have pick:(m<32∨(32<=m/\m<64)∨(64<=m/\m<96)∨(96<=m/\m<128))∨((128<=m/\m<160)∨(160<=m/\m<192)∨(192<=m/\m<224)∨(224<=m/\m<256)):=by omega
 cases led with
 |true=>
  rcases pick with(h|h|h|h)|(h|h|h|h)
  ·exact go 0 aq6 Zb Zb
  ·exact go 32 aq5 Zb Zb
  ·exact go 64 aq4 Zb Zb
  ·exact go 96 aq3 Zb Zb
  ·exact go 128 aq2 Zb Zb
  ·exact go 160 aq1 Zb Zb
  ·exact go 192 aq0 Zb Zb
  ·exact go 224 aqZ Zb Zb
 |false=>
  rcases pick with(h|h|h|h)|(h|h|h|h)
  ·exact go 0 aqX Zb Zb
  ·exact go 32 aqW Zb Zb
  ·exact go 64 aqV Zb Zb
  ·exact go 96 aqU Zb Zb
  ·exact go 128 aqT Zb Zb
  ·exact go 160 aqS Zb Zb
  ·exact go 192 aqR Zb Zb
  ·exact go 224 aqQ Zb Zb
structure ase(m x:Nat)(led:Bool):Prop where
 free:(cH m led).freeSlot (x:Int)=some (x,false)
 put:(cH m led).put x=(V4 led,tu m x)
 fits:(V4 led).fits Ua=true
 lay:if(V4 led).tooFull =true then(V4 led).relaid ((bO (m|||1<<<x)).map λ(i:Nat)=>(i:Int)).toArray (SetTable.grown Ua)=some ZqD else V4 led=cH (m|||1<<<x) led
 avx:(cH m led).fits (bO m).length =true
 mem:bO (m|||1<<<x)=(bO m).insertIdx (tu m x) x
 len:(bO (m|||1<<<x)).length =(bO m).length +1
theorem ahh{m x:Nat}{led:Bool}(hm:m<256)(hx:x<8)(hn:m.testBit x=false):ase m x led:=by
 have h:=aqY m x led hm hx;unfold gY at h;rw[hn,Hq]at h;simp only[aQ,bX]at h;obtain⟨⟨⟨⟨⟨⟨h1,h2⟩,h3⟩,h4⟩,h5⟩,h6⟩,h7⟩:=h;refine⟨h1,h2,h3,?_,h5,h6,h7⟩;by_cases e:(V4 led).tooFull =true
 ·rw[af e]at h4⊢;exact lX h4
 ·rw[ae e]at h4⊢;exact lX h4
end
section
theorem acV{k:Nat}(h:k<8):hashInt (k:Int)=(k:Int):=by
 have h8:((List.range 8).all λk=>decide (hashInt (k:Int)=(k:Int)))=true:=by decide+kernel
 exact lX (dh.mp h8 k (dS.mpr h))
theorem aoB:((List.range 256).all λm=>(cH m true).fits (bO m).length &&(cH m false).fits (bO m).length)=true:=by decide+kernel
theorem Nt{m:Nat}(led:Bool)(hm:m<256):(cH m led).fits (bO m).length =true:=by
 have h:=dh.mp aoB m (dS.mpr hm);rw[aQ]at h;cases led
 ·exact h.2
 ·exact h.1
theorem TV{α:Type}:∀l:List α,(List.range l.length).filterMap (λi=>l[i]?)=l
 |[]=>rfl
 |a::r=>by rw[bb,O4,He,List.filterMap_map];show a::(List.range r.length).filterMap (λi=>r[i]?)=a::r;rw[TV r]
theorem aaC{m k:Nat}(hm:m<256)(hk:k<8):m|||1<<<k<256:=by refine Nat.or_lt_two_pow (n:=8) hm ?_;rw[aeU,Nat.one_mul];exact Nat.pow_lt_pow_right Zj hk
theorem Ep{m k:Nat}:k∈bO m↔k<8/\m.testBit k=true:=by unfold bO;rw[bD,dS]
section
variable {prog:Program}{w:World}{A:Around}{E:Zu}{s:Shared}{a:Addr}{es:WK}{ep m:Nat}{led:Bool}
theorem aqc(h:mG es m):ElemsOf (Zc7 w) es.toList:=by obtain⟨f,e⟩:=h;intro x hx;rw[e]at hx;obtain⟨k,hk,rfl⟩:=aO.mp hx;refine⟨⟨(k:Int),Zjb,(acV (Ep.mp hk).1).symm⟩,rfl⟩
theorem ar6{Q:ZlF}{k:Nat}{t:Tok}(hm:m<256)(hk:k<8)(he:mG es m)(x:ZcH (cH m led))
  (hQ:∀h' lF mm b,Zhs h'->mG lF (m|||1<<<k)->j_ h' a lF mm Zhy->Q b {s with heap:=h'}):
  wpAny Y5 A (setAddHashed a (.int k t) (hashInt (k:Int))) Q E s:=by
 obtain⟨o,ho,hex,hd⟩:=id x;have uE:=he.els;have Fj:=Nt led hm;have hf:(cH m led).fits es.size=true:=by rw[uE.1];exact Fj
 have kI:=aqc (prog:=prog) (w:=w) he;have h8:(bO m).length <=8:=by unfold bO;exact Zbe
 have hb:es.size<scanBound:=by rw[uE.1];unfold scanBound;omega
 unfold setAddHashed setAddHashedIn;refine nH (aj (Zjf ?_));ext i;rw[byScan_of (knd:=Zc7 w) (x:=.int k t) rfl hb kI];simp only[↓reduceIte];unfold setAddByScan;refine aj (aj (Hy (aj (wpAny_setScan_of (knd:=Zc7 w) (k:=(k:Int)) Zjb ho hd hf kI ?_))));obtain⟨f,ef⟩:=id he;cases oB:m.testBit k with
 |true=>
  have anp:∃j,es.toList.findIdx? Zj1=some j:=by
   cases hr:es.toList.findIdx? Zj1 with
   |some j=>exact⟨j,rfl⟩
   |none=>
    have:=atp.mp hr (el f k) (by rw[ef];exact aO.mpr ⟨k,Ep.mpr ⟨hk,oB⟩,rfl⟩);rw[show(Zc7 w).is (k:Int) (el f k).2=true from Zjb]at this;cases this
  obtain⟨j,hj⟩:=anp;rw[hj];have em:m|||1<<<k=m:=by
   refine Cf λi=>?_;rw[G3,aeU,Nat.one_mul,aeT];by_cases e:k=i
   ·subst e;simp[oB]
   ·simp[e]
  refine aL Yw;have:=hQ s.heap es ep false (Heap.SameBut.refl a s.heap) (by rw[em];exact he) (by rw[em];exact x);ext d
 |false=>
  have amO:es.toList.findIdx? Zj1=none:=by
   rw[atp];intro y hy;rw[ef]at hy;obtain⟨j,hj,rfl⟩:=aO.mp hy;have hjk:j≠k:=λe=>by have:=(Ep.mp hj).2;rw[e,oB]at this;cases this
   show Value.isInt (k:Int) (Value.int (j:Int) (f j))=false;unfold Value.isInt;simp;omega
  rw[amO];have st:=ahh (led:=led) hm hk oB;have lq:es.size=(bO m).length :=uE.1;have amB:tu m k<=es.size:=by rw[lq];unfold tu;exact List.countP_le_length
  obtain⟨dI,acO⟩:∃dI,dI=SetTable.insertAt es (tu m k) ((k:Int),ZmE t):=Zs;have cX:dI.toList=(bO (m|||1<<<k)).map ZqU:=by
   rw[acO,amc _ _ _ amB,ef,st.mem,aa9];have e1:(bO m).map (el f)=(bO m).map ZqU:=by
    refine gv λj hj=>?_;have hjk:j≠k:=λe=>by have:=(Ep.mp hj).2;rw[e,oB]at this;cases this
    unfold el;ext i;rw[ae hjk]
   rw[e1];congr 1;unfold el;ext i;rw[af rfl]
  have uu:dI.size=(bO m).length +1:=by rw[←oV,cX,aq,st.len]
  have adD:mG dI (m|||1<<<k):=⟨_,cX⟩;have hL:layNew (cH m led) es (hashInt (k:Int)) (.int k t)=(dI,Zjc,false,false):=by
   unfold layNew;rw[acV hk,st.free];ext i;rw[st.put];ext i;rw[←acO];have:(fW m k led).fits dI.size=true:=by rw[uu];exact st.fits
   unfold SetTable.orStandIn;rw[this];rfl
  ext i;rw[hL];ext i;refine Zp8;rw[af (show(fW m k led).plain =true from rfl)];refine aj (show YF (pure true) _ E s from Yw);simp only[↓reduceIte];have fF:dI.size<=sizeLine:=by rw[uu];have:sizeLine=16777216:=rfl;omega
  refine aj (wpAny_storeSet_of ho hd ?_ fF);have xQ:(s.heap.update a Zg0).get? a=some {o with data:=.set dI (ep+1) (fW m k led)}:=by have:=zf Zg0 ho (by rw[Kb dI _ hd];rfl);rw[Kb dI _ hd]at this;exact this
  have Tn:=vz s.heap a Zg0;have xT:=st.lay;have L6:(cH (m|||1<<<k) led).fits dI.size=true:=by rw[uu,←st.len];exact Nt led (aaC hm hk)
  by_cases Fi:(fW m k led).tooFull =true
  ·rw[af Fi]at xT;have hR:relayAll Zjc dI (SetTable.grown dI.size)=(dI,Zhy,false):=by
    unfold relayAll;have e1:dI.map Zh=((bO (m|||1<<<k)).map λ(i:Nat)=>(i:Int)).toArray :=by apply af2.mp;rw[Array.toList_map,cX,bz];rfl
    rw[e1,uu,xT];ext i;have e2:(Array.range Ua).filterMap (dI[·]?)=dI:=by rw[←uu];apply af2.mp;rw[Array.toList_filterMap,Array.toList_range];have:=TV dI.toList;rw[oV]at this;simpa using this
    have e3:coversAll (Array.range Ua) Ua=true:=by unfold coversAll;rw[List.isPerm_iff];simp
    rw[e2,e3,L6];rfl
   rw[af (by rw[Fi];rfl),hR];ext i;refine aj (show YF (pure ()) _ E _ from Yw);refine aj (wpAny_storeSet_of xQ rfl (aL Yw) fF);have LI:((s.heap.update a Zg0).update a (Obj.putSet dI Zhy)).get? a=some {o with data:=.set dI (ep+1+1) (cH (m|||1<<<k) led)}:=by have:=zf (Obj.putSet dI Zhy) xQ (by rw[ZpH _ rfl];rfl);rw[ZpH _ rfl]at this;exact this
   exact hQ _ dI (ep+1+1) true (Tn.trans (vz _ a _)) adD ⟨_,LI,hex,rfl⟩
  ·rw[ae Fi]at xT;rw[ae (by simpa using Fi)];refine aL Yw;refine hQ _ dI (ep+1) true Tn adD ⟨_,xQ,hex,?_⟩;rw[xT]
end
end
section
set_option maxHeartbeats 3200000
def gP(val:UN):Nat->Nat
 |0=>0
 |i+1=>Vu i|||1<<<val i
theorem KO(val:UN):∀i,(∀j,j<i->val j<8)->Vu i<256
 |0,_=>(show(0 :Nat)<256 by decide)
 |i+1,h=>aaC (KO val i λj hj=>h j Zb) (h i Zb)
theorem aqb:mG #[] 0:=⟨λ_=>0,by rw[show bO 0=[] by decide];rfl⟩
section
variable {prog:Program}{w:World}{A:Around}{E:Zu}{s:Shared}
abbrev rn(w:World):Bool:=!w.params.followText "set-order"
abbrev pG(w:World):Obj:={cls:=Zff,dict:=none,data:=.set #[] 0 (.fresh 0 0 (rn w))}
theorem aqH(a:Value){Q1:Zu}(h:Q1 Ys {s with heap:=s.heap.push (pG w)}):codeAny Y5 A (.call Ztt Zk6) (wants Q1 E) s:=by
 refine ad4 ?_;show ZaF (do checkBuiltinCall "set.__new__" Zk6;again (Ztt Zk6)) _ _ s;refine aj (Cz (PySem.F.newCall_set_1 a) (aL ⟨plainId_quiet PySem.F.plain_set_new _,yH PySem.F.entry_set_new ?_⟩));rw[PK PySem.F.plain_set_new _];unfold Builtin.«set.__new__» Builtin.Frozenset.newClass;have hs8:=sub_set_self;ext bk;ext i
 wp_walk
 refine P2 Yw;ext i;simp only[newObj];exact aj (wpAny_alloc (aL (aL h)))
theorem alk{R:Zho}{I S:Addr}{fp wr:Zz}{n:Nat}{P:Nat->Value->Prop}{St:ZhS}(W:Walks prog w A.in1 I fp wr n P St)(Fq:S∉fp)(val:UN)(amo:∀i v,P i v->∃t,v=ZmS t)(h8:∀i,i<n->val i<8)
  (led:Bool):∀(k i:Nat) (s:Shared),n-i=k->i<=n->St i s.heap->(∃es ep,mG es (Vu i)/\j_ s.heap S es ep (cH (Vu i) led))->
   (∀h' tk,(∀b o,b≠S->b∉wr->s.heap.get? b=some o->h'.get? b=some o)->(∃es ep,mG es (Vu n)/\j_ h' S es ep (cH (Vu n) led))->R (.ok (.ret .none)) {s with heap:=h',toks:=tk})->
   codeAny Y5 A (.builtin "set.update.loop" ⟨[.ref S,.ref I],[]⟩) R s:=by
 have hSw:S∉wr:=λh=>Fq (W.sub _ h);intro k
 induction k with
 |zero=>
  intro i s hk hi aT hS hR;have iI:i=n:=by omega
  subst iI;ext cc;refine aj (W.done s _ _ aT λh' tk oy=>?_);show ZaF (ret Value.none) _ _ _;obtain⟨es,ep,e1,o,e2,e3⟩:=hS;exact aL (hR h' tk (λb o hb hw e=>oy b o hw e) ⟨es,ep,e1,o,oy S o hSw e2,e3⟩)
 |succ k ih=>
  intro i s hk hi aT hS hR;have bG:i<n:=by omega
  ext cc;refine aj (ZnH bG aT λv h1 zw hP amx gT=>?_);obtain⟨t,rfl⟩:=amo i v hP;obtain⟨es,ep,e1,o,e2,e3⟩:=hS;show ZaF (holding [Value.int (val i:Int) t] (setAdd S (ZmS t))>>= _) _ _ _;refine aj (nH ?_);unfold setAdd;refine nH (aj ((Zc7 w).pyHash (k:=(val i:Int)) Zjb ?_));refine ar6 (s:={s with heap:=h1,toks:=zw+1}) (led:=led) (KO val i λj hj=>h8 j Zb) (h8 i bG) e1 ⟨o,gT S o hSw e2,e3⟩ λh2 es2 ep2 b sb e4 e5=>?_;refine aL ⟨plainId_quiet aeL _,ih YU _ Zb bG (W.frame _ _ _ amx λc hc o' e=>?_) ⟨es2,ep2,e4,e5⟩ λh3 tk3 LX hS3=>?_⟩
  ·exact sb.extBut c o' (λq=>Fq (q▸hc)) e
  ·exact hR h3 tk3 (λc o' hc hw e=>LX c o' hc hw (sb.extBut c o' hc (gT c o' hw e))) hS3
theorem arf{l:Addr}{items:YS}{Q:Zu}(hh:Vc)(hl:Ze4 items)(val:UN)(hv:∀(i:Nat) v,items[i]? =some v->∃t,v=ZmS t)(h8:∀i,i<items.size->val i<8)
  (h:∀(h':Heap) (tk:Nat),(∃es ep,mG es ZmI/\ZoH)->(∀b o,b<s.heap.objs.size->s.heap.get? b=some o->h'.get? b=some o)->Q Ys {s with heap:=h',toks:=tk}):
  wpAny Y5 A (call Zff [.ref l]) Q E s:=by
 obtain⟨c,tl,amW⟩:=vg.mro;have amZ:=vg.made;have gj:=vg.sub;refine CA (ad4 ?_);show V5 _ (callAny Zff _) _ _ _;refine aL ⟨afW _ ZT,yH PySem.F.entry_type_call ?_⟩;rw[Around.under_plain (weight_type_call_type "set" [.ref l] []) rfl];have h1:=vg.notType;have h2:=vg.canCreate;have hct:=PySem.F.typeCall_set_1 Z6
 repeat(any_goals(first |assumption|wp_step))
 refine uZ (aqH Z6 (E:=E) (Q1:=λobj s1=>obj=.ref s.heap.objs.size/\s1={s with heap:=s.heap.push (pG w)}) Uv) λr s1 hr=>?_;cases r with
 |error e=>exact hr
 |ok fl=>
  cases fl with
  |ret obj=>
   ext ay;have hS:(s.heap.push (pG w)).get? s.heap.objs.size=some (pG w):=dj _ rfl;have hT:Shared.TypeIs {s with heap:=s.heap.push (pG w)} Ys "set":=⟨_,hS,rfl⟩;have hli:=vg.init.lookup;have hbi:=vg.init.bind Ys
   repeat(any_goals(first |assumption|wp_step))
   refine uZ (ad5 (R:=wants (λr s2=>r=.none /\∃h' tk,s2={s with heap:=h',toks:=tk}/\(∃es ep,mG es ZmI/\ZoH)/\
     (∀b o,b<s.heap.objs.size->s.heap.get? b=some o->h'.get? b=some o)) E) vg.init.plain PySem.F.entry_set_init (check_set_init_1 hT ?_)) λr2 s2 gR=>?_
   ·obtain⟨⟨atO,akz,atN,aiI⟩,pQ,kJ,nl,hdl⟩:=id hl;simp only at kJ hdl;subst kJ hdl;have amL:(s.heap.push (pG w)).get? l=some {cls:=Yk,dict:=akz,data:=.seq items nl,slots:=aiI}:=cV _ pQ;have auR:=PySem.F.sub_list_set;have auS:=PySem.F.sub_list_frozenset;have aK:(Value.type "list"==Value.type "dict")=false:=by decide
    have cX:(s.heap.push (pG w)).IsList l items:=⟨_,amL,rfl,nl,rfl⟩;unfold Builtin.«set.__init__» noKeywords Builtin.Frozenset.updateFrom;generalize hPI:pyIter=PI
    wp_walk
    subst hPI;refine qB cX (aj (wpAny_runValue ?_));have hlS:l<s.heap.objs.size:=bT pQ;have hh3:A.in1.in1.in1.handled=none:=by simp[hh]
    have amS:l≠(s.heap.push (pG w)).objs.size :=by rw[gb];exact eB (Ce hlS)
    have Fq:s.heap.objs.size∉[(s.heap.push (pG w)).objs.size,l]:=by rw[gb];simp only[aJ,mv,lV,not_or];exact⟨eB (Cd _),oO hlS⟩
    refine alk (Walks.list hh3 _ l amS items) Fq val (λi v hi=>hv i v hi) h8 (rn w) (items.size-0) 0 _ Zb ZI ⟨Zcu,cX.push _⟩ ⟨#[],0,aqb,_,cV _ hS,⟨rfl,rfl,rfl⟩,?_⟩ λh' tk oy x_=>?_
    ·show Data.set #[] 0 (SetTable.fresh 0 0 (rn w))=Data.set #[] 0 (cH 0 (rn w));rw[aot]
    ·show V5 A.in1.in1 (pure ()) _ _ _;refine Yw;show V5 A.in1.in1 (ret Value.none) _ _ _;refine aL ⟨rfl,h',tk,rfl,x_,λb o hb e=>?_⟩;refine oy b o (eB hb) ?_ (cV _ XU);rw[bo,gb];exact eB (Ce hb)
   ·cases r2 with
    |error e=>exact gR
    |ok fl2=>
     cases fl2 with
     |ret r=>
      obtain⟨rfl,h',tk,rfl,x_,oy⟩:=gR
      repeat(any_goals(first |assumption|wp_step))
      exact h _ _ x_ oy
     |_=>exact gR.elim
  |_=>exact hr.elim
end
end
section
set_option maxHeartbeats 3200000
theorem aa5(val:UN):∀(n k:Nat),(Vu n).testBit k=true↔∃i,i<n/\val i=k
 |0,k=>by
  ext b
  ·intro h;rw[show Vu 0=0 from rfl,G2]at h;cases h
  ·rintro⟨i,hi,_⟩;exact absurd hi (OU _)
 |n+1,k=>by
  rw[show Vu Wh=Vu n|||1<<<val n from rfl,G3,h_,aa5 val n k,aeU,Nat.one_mul,aeT];simp only[bX];ext b
  ·rintro(⟨i,hi,e⟩|e)
   ·exact⟨i,Zb,e⟩
   ·exact⟨n,Zb,e⟩
  ·rintro⟨i,hi,e⟩;by_cases h:i=n
   ·subst h;exact .inr e
   ·exact .inl ⟨i,Zb,e⟩
def e_(rs:Za):Za:=(List.range 8).filter λk=>rs.contains k
theorem ak7(rs:Za)(h:∀r∈rs,r<8):bO Zec=e_ rs:=by
 unfold bO e_;refine nD λk _=>?_;rw[iS,aa5,bx,y_];constructor
 ·rintro⟨i,hi,e⟩;refine⟨i,hi,?_⟩;rw[jL,fP hi]at e;exact e
 ·rintro⟨i,hi,e⟩;refine⟨i,hi,?_⟩;rw[jL,fP hi];exact e
theorem NL(rs:Za):(e_ rs).Pairwise Vg:=by unfold e_;exact afQ _ O5
section
variable {X:Cx}
def zN(w:World)(a:Addr)(rs:Za):HO:=.ext λh=>∃es ep,mG es Zec/\j_ h a es ep (cH Zec (rn w))
theorem ard(K:PySem.W.Frag)(hK:X.K=K:=by rfl)(hc:X.calm=true:=by rfl):gJ X Zff (λxs H Q=>∃(p:Addr) (rs:Za),xs=[V.ref p]/\Y2 p (nats rs)/\(∀r∈rs,r<8)/\∀l,H l=none->Z0 (XZ (zN X.w l rs))):=by
 subst hK;ext z;obtain⟨p,rs,rfl,hq,h8,q⟩:=h;obtain⟨u,rfl,ru⟩:=oZ r;cases ru
 obtain⟨its,rv,pl,hz⟩:=UL;have hlen:=rv.length;rw[bA]at hlen;refine arf (A:=X.A) (items:=its.toArray) YR pl.isList Zl5 (λi v hv=>?_) (λi hi=>?_) λh' tk hS hk=>?_
 ·have ig:its[i]? =some v:=by simpa using hv
  have hi:i<rs.length:=by have:=(iQ.mp ig).1;omega
  obtain⟨u,eu,ru⟩:=rv.get (show(nats rs)[i]? =some (nat (rs.getD i 0)) by unfold nats;rw[cx,jL,fP hi];rfl)
  rw[ig]at eu;cases eu
  exact ru
 ·have L0:i<rs.length:=by rw[dR]at hi;omega
  show rs.getD i 0<8;rw[jL,fP L0];exact h8 _ (afw L0)
 ·rw[dR,←hlen]at hS;have hn:H s.heap.objs.size=none:=X1;refine⟨Ys,Wl (zN X.w s.heap.objs.size rs),Znf (λb o e=>hk b o YL e) ZC ⟨hS,?_,?_⟩,rfl,q _ hn⟩
  ·obtain⟨es,ep,_,o,ho,_⟩:=hS;exact⟨o,ho⟩
  ·rintro h1 h2 ⟨es,ep,e1,o,ho,e2⟩ k;exact⟨es,ep,e1,o,k o ho,e2⟩
theorem arb(hc:X.calm=true:=by rfl):gJ X ZlC (λxs H Q=>∃(p:Addr) (rs:Za),xs=[V.ref p]/\H p=some (zN X.w p rs)/\(∀r∈rs,r<8)/\∀l,H l=none->Z0 (XZ (.lst Znv))):=by
 ext z;obtain⟨p,rs,rfl,hp,h8,q⟩:=h;obtain⟨u,rfl,ru⟩:=oZ r;cases ru
 obtain⟨⟨es,ep,e1,x⟩,_,_⟩:=I.aC p _ hp;have hm:gP Zl5 rs.length<256:=KO _ _ λj hj=>by show rs.getD j 0<8;rw[jL,fP hj];exact h8 _ (afw hj)
 have uE:=e1.els;have hf:(cH Zec (rn X.w)).fits es.size=true:=by rw[uE.1];exact Nt _ hm
 have ly:(bO Zec).length <=8:=by unfold bO;exact Zbe
 have hsz:sizeLine=16777216:=rfl;obtain⟨f,ef⟩:=id e1;have acw:=aaB X.w p ep es;refine ahp (A:=X.A) (ahi (prog:=X.prog) (w:=X.w) (a:=p) (ep:=ep) hm uE hf) YR x (by rw[uE.1];omega) Zpe (λi v hv=>?_) λh' tk D vs ns c hk hD Fg hI lq amy=>?_
 ·obtain⟨e,he,rfl⟩:=hv;have hem:e∈es.toList:=acw.mem_iff.mp (by rw[Array.mem_toList_iff];exact Array.mem_of_getElem? he);rw[ef]at hem;obtain⟨k,hk,rfl⟩:=aO.mp hem;refine⟨f k,?_⟩;simp only[he];rfl
 ·have e0:(List.range es.size).map Zpe=(iB X.w p ep es).toList.map Zh:=by
   rw[←Ko X.w p ep es];refine List.ext_getElem Zf λi h1 h2=>?_;have hi:i<(iB X.w p ep es).size :=by simpa using h1
   simp[hi]
  rw[e0]at lq;have e2:es.toList.map Zh=(e_ rs).map λ(k:Nat)=>(k:Int):=by rw[ef,bz,ak7 rs h8];rfl
  have dP:=lq.trans (acw.map Zh);rw[e2]at dP;have EU:((e_ rs).map λ(k:Nat)=>(k:Int)).Pairwise (· <=·):=by rw[List.pairwise_map];exact(NL rs).imp λh=>by omega
  have uw:ns=(e_ rs).map λ(k:Nat)=>(k:Int):=PySem.W.ksm_same dP amy EU;subst uw;have hrv:Vals Znv vs:=by have:=L2.P9 hI;rw[bz]at this;exact this
  have hl:(nats (e_ rs)).length <=sizeLine:=by rw[bA];unfold e_;exact WN (by rw[eM];omega)
  exact⟨Vi,Zw D (.lst Znv),Znf hk hD ⟨hl,vs,c,hrv,Fg⟩,rfl,q D (I.aC.fresh hD)⟩
end
end
local macro_rules | `(tactic| simp! [$xs,*]) => `(tactic| simp only [o9, v_, qF, nM, lL, wW, tF, wd, sP, wm, lM, vY, nO, lD, nN, vP, vS, zy, tC, tB, wt, vV, vW, wq, vU, zA, wb, sJ, wk, sO, sM, tH, tG, wR, tI, tJ, jT, rI, wY, wG, we, nU, wO, wU, wo, yz, wV, wX, wQ, o_, qH, sI, vR, tE, vT, vX, zB, zC, ui, uh, uj, EL, xB, ug, EK, xA, vN, sQ, ud, vO, rU, vQ, tD, wj, wg, zD, pb, qG, sN, yB, yA, Nat.succ_eq_add_one, uR, wD, zP, zQ, zO, V.str.injEq, wB, xm, mU, AI, Bs, fold_succ, List.set_cons_zero, List.set_cons_succ, List.getElem?_cons_zero, List.getElem?_cons_succ, Option.some.injEq, exists_eq_left', exists_eq_left, exists_and_left, and_assoc, true_and, and_true, V.bl.injEq, HO.lst.injEq, HO.ins.injEq, HO.tup.injEq, V.ref.injEq, V.int.injEq, decide_true, decide_false, if_true, if_false, List.cons.injEq, Bool.false_eq_true, au, jP, exists_const, exists_eq', exists_eq, and_self, List.append_nil, List.nil_append, List.cons_append, List.append_assoc, L2.start, List.map_cons, List.map_nil, List.length_cons, List.length_nil, Nat.zero_add, Nat.reduceAdd, Nat.reduceSub, List.replicate_succ, List.replicate_zero, wipe, $xs,*])
section
open PySem.W (nsIn findIn)
abbrev Jp:Stmt:=top 4
abbrev yV:Zc:=["pairs","step"]
abbrev Dh:Stmt:=top 5
abbrev BS:Zc:=["plan","step"]
abbrev JH:Stmt:=top 6
abbrev GO:Zc:=["plan","later","earlier"]
abbrev Dg:Stmt:=top 20
abbrev nz:Zc:=["record"]
abbrev Dm:Stmt:=top 21
abbrev yU:Zc:=["record"]
abbrev Ji:Stmt:=top 24
abbrev yT:Zc:=["record","person"]
abbrev Dr:Stmt:=top 25
abbrev BX:Zc:=["record","person","step"]
abbrev zS:Stmt:=top 26
abbrev Gx:Zc:=["record","word","step"]
abbrev Dv:Stmt:=top 27
abbrev B2:Zc:=["record","person","step"]
abbrev zU:Stmt:=top 46
abbrev qm:Zc:=["record"]
abbrev JE:Stmt:=top 47
abbrev B3:Zc:=["options","step","person"]
abbrev Jr:Stmt:=top 48
abbrev GA:Zc:=["options","steps"]
abbrev Df:Stmt:=top 49
abbrev Gg:Zc:=["options","persons"]
abbrev Dj:Stmt:=top 38
abbrev yS:Zc:=["some","others"]
abbrev JP:Stmt:=top 39
abbrev GZ:Zc:=["plan","steps"]
abbrev IZ:Stmt:=top 40
abbrev BR:Zc:=["plan","steps"]
abbrev DK:Stmt:=inClass (top 37) 0
abbrev yZ:Zc:=["self","steps","persons"]
abbrev zT:Stmt:=top 41
abbrev Gy:Zc:=["plan","options","rooms","steps"]
abbrev Dn:Stmt:=top 42
abbrev Gw:Zc:=["plan","parts","taken","person","room"]
abbrev zX:Stmt:=top 43
abbrev vi:Zc:=["plan","parts","rooms"]
abbrev DA:Stmt:=top 44
abbrev GQ:Zc:=["plan","options","rooms"]
abbrev Dy:Stmt:=top 50
abbrev sm:Zc:=["record","options"]
abbrev JK:Stmt:=top 51
abbrev vj:Zc:=["record"]
abbrev JJ:Stmt:=top 52
abbrev GR:Zc:=["record","step","person"]
abbrev zW:Stmt:=top 53
abbrev GK:Zc:=["record"]
abbrev Jt:Stmt:=top 54
abbrev GC:Zc:=["choices","members"]
abbrev JI:Stmt:=top 55
abbrev yX:Zc:=["members"]
abbrev JF:Stmt:=top 56
abbrev GN:Zc:=["record"]
abbrev Ju:Stmt:=top 57
abbrev GD:Zc:=["record"]
abbrev DC:Stmt:=top 101
abbrev yY:Zc:=["record","step","person"]
abbrev Dx:Stmt:=top 102
abbrev GJ:Zc:=["record","step"]
abbrev Jd:Stmt:=top 81
abbrev Gn:Zc:=["byte"]
abbrev zV:Stmt:=top 82
abbrev GG:Zc:=["text"]
abbrev Dt:Stmt:=top 83
abbrev B1:Zc:=["word"]
abbrev DE:Stmt:=top 84
abbrev GV:Zc:=["words"]
abbrev Du:Stmt:=top 85
abbrev GH:Zc:=["word"]
abbrev JD:Stmt:=top 86
abbrev GI:Zc:=["words"]
abbrev De:Stmt:=top 87
abbrev Ge:Zc:=["names","most","words","known","wanted"]
abbrev Jq:Stmt:=top 88
abbrev BW:Zc:=["plan","words"]
abbrev IT:Stmt:=top 89
abbrev Gd:Zc:=["plan","words"]
abbrev IU:Stmt:=top 90
abbrev Gf:Zc:=["plan","words"]
abbrev Jy:Stmt:=top 8
abbrev mr:Zc:=["numbers"]
abbrev DB:Stmt:=top 9
abbrev B4:Zc:=["signs"]
abbrev Dl:Stmt:=top 10
abbrev BU:Zc:=["plan","roles"]
abbrev Jo:Stmt:=top 11
abbrev Gv:Zc:=["plan"]
abbrev Jc:Stmt:=top 12
abbrev Gm:Zc:=["plan"]
abbrev Di:Stmt:=top 13
abbrev Gp:Zc:=["plan"]
abbrev DL:Stmt:=inClass (top 18) 0
abbrev y4:Zc:=["self","kind","target","person","text"]
abbrev DH:Stmt:=top 22
abbrev G0:Zc:=["record"]
abbrev Jl:Stmt:=top 23
abbrev BV:Zc:=["record","entry"]
abbrev Jk:Stmt:=top 103
abbrev Gs:Zc:=["record","step","person"]
abbrev Jm:Stmt:=top 35
abbrev Gu:Zc:=["record","number","person","text"]
abbrev JA:Stmt:=top 29
abbrev BZ:Zc:=["record","number"]
abbrev DG:Stmt:=top 30
abbrev GY:Zc:=["record"]
abbrev JN:Stmt:=top 31
abbrev B5:Zc:=["entry","number"]
abbrev DF:Stmt:=top 32
abbrev GX:Zc:=["record","number"]
abbrev I_:Stmt:=top 33
abbrev Gi:Zc:=["record","number","count"]
abbrev IX:Stmt:=top 34
abbrev Gh:Zc:=["record","count"]
abbrev Jf:Stmt:=top 14
abbrev Gq:Zc:=["plan"]
abbrev Dq:Stmt:=top 59
abbrev Gz:Zc:=["record","options","word"]
abbrev wF:Stmt:=top 60
abbrev GP:Zc:=["record","options","person","share"]
abbrev DD:Stmt:=top 61
abbrev GU:Zc:=["steps"]
abbrev Js:Stmt:=top 62
abbrev GB:Zc:=["counts","shares"]
abbrev Dz:Stmt:=top 63
abbrev GL:Zc:=["record"]
abbrev Dk:Stmt:=top 91
abbrev Gr:Zc:=["plan","names"]
abbrev Jb:Stmt:=top 92
abbrev Gk:Zc:=["plan","words"]
abbrev Ja:Stmt:=top 93
abbrev Gj:Zc:=["plan","text"]
abbrev DM:Stmt:=inClass (top 123) 0
abbrev B8:Zc:=["self"]
abbrev DN:Stmt:=inClass (top 124) 0
abbrev B9:Zc:=["self","number","numbers","text","places"]
abbrev DI:Stmt:=inClass (top 19) 0
abbrev B6:Zc:=["self","plan"]
abbrev DJ:Stmt:=inClass (top 3) 0
abbrev B7:Zc:=["self"]
abbrev JL:Stmt:=top 125
abbrev GS:Zc:=["calls","place"]
abbrev Ds:Stmt:=top 126
abbrev BY:Zc:=["numbers","longest"]
abbrev Jz:Stmt:=top 127
abbrev yW:Zc:=["record","number"]
abbrev JB:Stmt:=top 128
abbrev vh:Zc:=["record","number"]
abbrev Jg:Stmt:=top 130
abbrev OF:Zc:=["record","call"]
abbrev JG:Stmt:=top 134
abbrev OO:Zc:=["record","call"]
abbrev Jv:Stmt:=top 135
abbrev OJ:Zc:=["record","call"]
abbrev Jj:Stmt:=top 141
abbrev OH:Zc:=["record","call"]
abbrev IW:Stmt:=top 142
abbrev OC:Zc:=["record","call"]
abbrev Jn:Stmt:=top 133
abbrev OI:Zc:=["record","call"]
abbrev IV:Stmt:=top 136
abbrev OB:Zc:=["record","call"]
abbrev IY:Stmt:=top 138
abbrev OD:Zc:=["record","call"]
abbrev JC:Stmt:=top 139
abbrev ON:Zc:=["record","call"]
abbrev Jx:Stmt:=top 140
abbrev OM:Zc:=["record","call"]
abbrev Jw:Stmt:=top 143
abbrev OL:Zc:=["record","call"]
abbrev Je:Stmt:=top 131
abbrev OE:Zc:=["record","call"]
abbrev Jh:Stmt:=top 132
abbrev OG:Zc:=["record","call"]
abbrev JO:Stmt:=top 137
abbrev OP:Zc:=["record","call"]
abbrev s_load:Stmt:=top 129
abbrev GF:Zc:=["desk","text"]
abbrev JM:Stmt:=top 145
abbrev GW:Zc:=["desk","call"]
abbrev zY:Stmt:=top 146
abbrev ka:Zc:=["calls"]
def oG:List (Nat×Str):=[(1,"shown"),(2,"sign"),(3,"set_absent"),(4,"plan_end"),(5,"core"),(6,"needed"),(7,"who"),(8,"amend"),(9,"view"),(10,"history"),(11,"may"),(12,"released"),(13,"ways"),(14,"names")]
structure ats(K:PySem.W.Frag)(x:Str)(st:Stmt)(ps:Zc)(f:Addr)(fd:FuncData):Prop where
 ns:Yd x=some ZaH
 F:Zo x x st f fd
 b:UC ps []
def aw(K:PySem.W.Frag)(x:Str)(st:Stmt)(ps:Zc):Prop:=∃f fd,ats K x st ps f fd
def PH(x qual:Str)(st:Stmt)(ps:Zc):Prop:=∀(kV doc pm:Value) (an:Wt) (aG ct:Value) (us:Zp),us.length=ps.length->bindArgs (Zd1 ct) ZfK=pure ZbK
theorem a_{K:PySem.W.Frag}{x:Str}{st:Stmt}{ps:Zc}{f:Addr}{oc:Value}{od an:Wt}{jl:Zdu}{kV doc pm aG ct:Value}(b:PH x x st ps)(a:Yd x=some ZaH)
  (l:K.lookup f=some ⟨oc,od,.func (PySem.W.fnOf x x (uV st) (oH st) ZdW .none kV doc pm an aG ct),jl⟩) (c:ZeG x=true) (k:Uh Yn=true):Zq x st ps:=
 ⟨f,_,a,FH l c k,(FH l c k).binds b⟩
structure gc(K:PySem.W.Frag)(x qual:Str)(st:Stmt)(ps fs:Zc)(C:Addr):Prop where
 ns:Yd x=some (some Wd)
 cl:jN K C
 no:∀f∈fs,Vz f
 mkr:∃f fd,Mk K C f/\Zav qual st f fd/\UC ps []
theorem yI{K:PySem.W.Frag}{x qual:Str}{st:Stmt}{ps fs:Zc}{C f:Addr}{oc:Value}{od an:Wt}{jl:Zdu}{kV doc pm aG ct:Value}(b:PH "__init__" qual st ps)(a:Yd x=some (some Wd))(i:findIn K Wd "__init__"=some ZaH)(i2:PySem.W.isFn K Yn=true)
  (l:K.lookup f=some ⟨oc,od,.func (PySem.W.fnOf "__init__" qual (uV st) (oH st) ZdW .none kV doc pm an aG ct),jl⟩) (c:ZeG qual=true) (k:Uh Yn=true)
  (pg:Zhx Str.empty=true) (hd:ZhF C=true) (po:ZlS C=true) (sa:findIn K Wd "__setattr__"=some Zj0) (mk:ZmA C=true) (kc:Uh Wd=true) (no:∀f∈fs,Vz f):gc K x qual st ps fs C:=
 ⟨a,⟨pg,hd,po,sa⟩,no,f,_,⟨mk,i,i2,kc⟩,FH l c k,(FH l c k).binds b⟩
theorem gh{K:PySem.W.Frag}{C:Addr}{f:Str}{fs:Zc}(h:findIn K Wd f=some none)(t:∀g∈fs,Vz g):∀g∈f::fs,Vz g:=λg hg=>by
 rcases aJ.mp hg with e|e
 ·rw[e];exact h
 ·exact t g e
theorem xk{K:PySem.W.Frag}{C:Addr}:∀g∈([]:List Str),Vz g:=λg hg=>by cases hg
def g_(K:PySem.W.Frag)(x:Str):Prop:=Yd x=some none
def cu(K:PySem.W.Frag)(x:Str)(v:Tok->Value):Prop:=∃t,Yd x=some (some (v t))
theorem jm{K:PySem.W.Frag}{x:Str}(h:Yd x=some none):g_ K x:=h
theorem cK{K:PySem.W.Frag}{x:Str}{i:Int}{t:Tok}(h:Yd x=some (some Zce)):ZP x Xs:=⟨t,h⟩
theorem aaP{K:PySem.W.Frag}{x z:Str}{t:Tok}(h:Yd x=some (some (ZdU t))):ZP x ZdU:=⟨t,h⟩
theorem Qz{K:PySem.W.Frag}{a:Addr}{xs:Ze}{o:Obj}{its:YS}{n:Nat}(l:K.lookup a=some o)(c:o.cls=.type "tuple")(d:o.data=.seq its n)(e:its.size<=sizeLine)(g:Zen its.toList):∀H,VJ:=λ_=>.inr ⟨o,its,n,l,c,d,e,g⟩
theorem aiZ{K:PySem.W.Frag}{a:Addr}{fs:X3}{o:Obj}{es:Ul}{ep:Nat}(l:K.lookup a=some o)(c:o.ExactDict)(d:ZeN)(p:ZjF es.toList fs)(n:(fs.map Zh).Nodup):qo K a fs:=⟨⟨o,es,ep,l,c,d,p⟩,n⟩
theorem arG:PH "answers" "answers" zY ka:=λ_ _ _ _ _ _ us hl=>match us,hl with |[_],_=>rfl
structure PB(K:PySem.W.Frag):Prop where
 apW:Zq "as_bits" DD GU
 api:Zq "open_pairs" Dq Gz
 ao3:Zq "room_of" Ji yT
 apO:Zq "can_take" wF GP
 apl:Zq "one_person_on" Js GB
 aoP:Zq "unsigned_steps" Dg nz
 apa:Zq "present_persons" Dm yU
 apr:Zq "may_do" Dr BX
 ape:Zq "partners" Jp yV
 apf:Zq "partner_signers" zS Gx
 apE:Zq "goes_with" Dv B2
 apj:Zq "open_options" zU qm
 apm:Zq "one_longer" Jt GC
 apN:Zq "choices_of" JI yX
 apJ:Zq "count_ways" Dz GL
 ao1:Zq "share_any" Dj yS
 ap4:Zq "alike_steps" JP GZ
 aoQ:Zq "unlike_steps" IZ BR
 apg:Zq "part_of" zT Gy
 apd:Zq "parts_behind" Dn Gw
 apP:Zq "can_fill_parts" zX vi
 apQ:Zq "can_fill" DA GQ
 apI:Zq "fillable" Dy sm
 apS:Zq "can_be_ended" JK vj
 apF:Zq "given" JE B3
 apR:Zq "can_be_ended_with" JJ GR
 apH:Zq "first_way" zW GK
 apk:Zq "only_steps" Jr GA
 apK:Zq "core_steps" JF GN
 aoK:Zq "without_persons" Df Gg
 apn:Zq "needed_persons" Ju GD
 apA:Zq "is_name" Dt B1
 apX:Zq "are_names" DE GV
 apB:Zq "is_most" Du GH
 apD:Zq "has_form" JD GI
 aoI:Zq "wrong_newcomer" De Ge
 aph:Zq "pair_of" Jq BW
 aoR:Zq "told_before" Dh BS
 apM:Zq "comes_after" JH GO
 aoH:Zq "wrong_pair" IT Gd
 aoJ:Zq "wrong_kind" IU Gf
 aoW:Zq "sign_of" Jd Gn
 apv:Zq "lines_of" zV GG
 apx:Zq "is_step" Jz yW
 apz:Zq "is_person" JB vh
 apw:Zq "is_text" Ds BY
 apT:Zq "call_at" JL GS
 apu:Zq "listed" Jy mr
 apU:Zq "bytes_of" DB B4
 ao5:Zq "role_names" Dl BU
 apc:Zq "person_lines" Jo Gv
 aoV:Zq "step_lines" Jc Gm
 aoY:Zq "shown_text" Di Gp
 ao0:Zq "shown" Jg OF
 apL:Zq "core" JG OO
 apo:Zq "needed" Jv OJ
 ao6:Zq "released" Jj OH
 aoM:Zq "ways" IW OC
 apV:Zq "bar_of" DC yY
 apG:Zq "free_signers" Dx GJ
 aoL:Zq "who" IV OB
 apy:Zq "is_signature" JA BZ
 ap0:Zq "amends" JN B5
 ap1:Zq "amendments_of" DF GX
 apC:Zq "history" JC ON
 aps:Zq "may" Jx OM
 aoS:Zq "text_as_of" I_ Gi
 aoN:Zq "viewed" IX Gh
 aoO:Zq "view" IY OD
 apb:Zq "plan_end" Jn OI
 aoZ:Zq "shown_names" Jf Gq
 ap5:Zq "absent_persons" DH G0
 apq:Zq "names" Jw OL
 ao8:Zq "put_entry" Jl BV
 ao7:Zq "put_signature" Jk Gs
 aoX:Zq "sign" Je OE
 ao2:Zq "set_absent" Jh OG
 ap2:Zq "amendment_count" DG GY
 ao9:Zq "put_amendment" Jm Gu
 ap3:Zq "amend" JO OP
 ao4:Zq "role_numbers" Dk Gr
 aoU:Zq "tell" Jb Gk
 aoT:Zq "tell_text" Ja Gj
 apt:Zq "load" s_load GF
 apZ:Zq "answer_to" JM GW
 apY:Zq "answers" zY ka
 cM:g_ K "len"
 aaX:g_ K "sum"
 xn:g_ K "any"
 rg:g_ K "all"
 aa1:g_ K "ord"
 KJ:g_ K "min"
 aa2:g_ K "max"
 aaZ:g_ K "sorted"
 KL:g_ K "list"
 aa4:g_ K "dict"
 aa0:g_ K "set"
 aa3:g_ K "int"
 aaY:g_ K "str"
 KI:g_ K "range"
 tS:g_ K "enumerate"
 tR:g_ K "zip"
 at1:ZP "UNTOLD_MOST" (.int (99))
 aub:ZP "SIGNATURE" (.int (0))
 auG:ZP "AMENDMENT" (.int (1))
 auA:ZP "FIRST_LETTER" (.int (97))
 auB:ZP "FIRST_DIGIT" (.int (48))
 auE:ZP "BLANK" (.int (32))
 auw:ZP "LINE_END" (.int (10))
 aut:ZP "LONGEST_NAME" (.int (12))
 aum:ZP "MOST_ROLES" (.int (8))
 aun:ZP "MOST_PERSONS" (.int (7))
 aul:ZP "MOST_STEPS" (.int (7))
 auo:ZP "MOST_PAIRS" (.int (12))
 auc:ZP "NO_SUCH_LINE" (.int (1))
 at8:ZP "TOLD_ALREADY" (.int (2))
 aui:ZP "NOT_TOLD" (.int (3))
 at3:ZP "TURNS_ON_ITSELF" (.int (4))
 at5:ZP "TOO_MANY" (.int (5))
 auk:ZP "NOTHING" (.int (0))
 aua:ZP "SIGNED" (.int (1))
 at7:ZP "TOO_EARLY" (.int (2))
 aur:ZP "MAY_NOT" (.int (3))
 auC:ZP "DOES_NOT_GO" (.int (4))
 auh:ZP "NO_END" (.int (5))
 auv:ZP "LOAD" (.int (0))
 auH:ZP "AMEND" (.int (8))
 aus:ZP "LONGEST_TEXT" (.int (4000))
 auu:ZP "LONGEST_AMENDMENT" (.int (60))
 auq:ZP "MOST_AMENDMENTS" (.int (40))
 aup:ZP "MOST_COUNTED" (.int (6))
 auz:ZP "GREATEST_BYTE" (.int (255))
 aud:ZP "NO_SUCH" (.int (-1))
 aue:ZP "NO_RECORD" (.int (-2))
 auf:ZP "NO_MORE" (.int (-3))
 auj:ZP "NOT_SO" (.int (-4))
 auD:ZP "CANT_END" (.int (-7))
 at4:ZP "TOO_MANY_LEFT" (.int (-7))
 auF:ZP "BARRED" (.int (-10))
 auy:ZP "IS_ABSENT" (.int (-13))
 at9:ZP "SIGNED_IT" (.int (-14))
 at0:ZP "WRONG_TEXT" (.int (-1000))
 atF:ZP "LETTERS" (.str "abcdefghijklmnopqrstuvwxyz")
 atG:ZP "DIGITS" (.str "0123456789")
structure Bound(K:PySem.W.Frag)(A:Ad)(fs:X3):Prop where
 bf:PB K
 N8:ZrO B7 ["roles","persons","steps","person_roles","step_roles","mosts","pairs"] A.plan
 N9:ZrN yZ ["steps","persons"] A.part
 N_:Zrj y4 ["kind","target","person","text"] A.entry
 N7:ZqV B6 ["plan","absent","entries","signers"] A.record
 Oa:ZrM B8 ["record"] A.j9
 Ob:ZrL B9 ["number","numbers","text","places"] A.call
 TY:Yd "NUMBER_COUNTS"=some (some (.ref A.pF))
 pF:∀H,Vx A.pF ZgK
 TX:Yd "PAIR_WORDS"=some (some (.ref A.lU))
 lU:∀H,Vx A.lU [.str "after",.str "unlike",.str "alike"]
 J7:Yd "ON_A_RECORD"=some (some (.ref A.Ee))
 Kv:qo K A.Ee fs
 NN:∀n x,(n,x)∈oG->∃f,Yd x=some ZaH/\((n:Int),f)∈fs
def af1(K:PySem.W.Frag)(q:Program):Prop:=∃(A:Ad) (fs:X3) (c:Addr) (dr:DefRec),ZiW/\ZeM "can_fill_parts"=some Zge/\K.lookup A.tab=none/\(recsOf q).find? Zd8=some dr
theorem arI{q:Program}{K:PySem.W.Frag}{c aeC aeB aeF aCall aeE aeD Oq Ou Ot Oo d1 d2 d3 d4 d5 d6 d7 d8 d9 NW NV NU NS NR:Addr}{dr:DefRec}(B0:PB K)(N8:ZrO B7 ["roles","persons","steps","person_roles","step_roles","mosts","pairs"] aeC)(N9:ZrN yZ ["steps","persons"] aeD)(N_:Zrj y4 ["kind","target","person","text"] aeE)(N7:ZqV B6 ["plan","absent","entries","signers"] aeB)(Oa:ZrM B8 ["record"] aeF)(Ob:ZrL B9 ["number","numbers","text","places"] aCall)(TY:Yd "NUMBER_COUNTS"=some (some (.ref Ou)))(pF:∀H,Vx Ou ZgK)(TX:Yd "PAIR_WORDS"=some (some (.ref Oq)))(lU:∀H,Vx Oq [.str "after",.str "unlike",.str "alike"])(J7:Yd "ON_A_RECORD"=some (some (.ref Ot)))(Kv:qo K Ot [(1,d1),(2,d2),(3,d3),(4,d4),(5,d5),(6,d6),(7,d7),(8,d8),(9,d9),(10,NW),(11,NV),(12,NU),(13,NS),(14,NR)])(NN:∀n x,(n,x)∈oG->∃f,Yd x=some ZaH/\((n:Int),f)∈[(1,d1),(2,d2),(3,d3),(4,d4),(5,d5),(6,d6),(7,d7),(8,d8),(9,d9),(10,NW),(11,NV),(12,NU),(13,NS),(14,NR)])(ht:ZeM "can_fill_parts"=some (c,Oo))(hn:K.lookup Oo=none)(m5:Zsd):af1 K q:=⟨⟨aeC,aeB,aeF,aCall,aeE,aeD,Oq,Ou,Ot,Oo⟩,[(1,d1),(2,d2),(3,d3),(4,d4),(5,d5),(6,d6),(7,d7),(8,d8),(9,d9),(10,NW),(11,NV),(12,NU),(13,NS),(14,NR)],c,dr,⟨B0,N8,N9,N_,N7,Oa,Ob,TY,pF,TX,lU,J7,Kv,NN⟩,ht,hn,m5⟩
theorem aqj{K:PySem.W.Frag}{f1 f2 f3 f4 f5 f6 f7 f8 f9 f10 f11 f12 f13 f14:Addr}(z1:Yd "shown"=some (some (.ref f1)))(z2:Yd "sign"=some (some (.ref f2)))(z3:Yd "set_absent"=some (some (.ref f3)))(z4:Yd "plan_end"=some (some (.ref f4)))(z5:Yd "core"=some (some (.ref f5)))(z6:Yd "needed"=some (some (.ref f6)))(z7:Yd "who"=some (some (.ref f7)))(z8:Yd "amend"=some (some (.ref f8)))(z9:Yd "view"=some (some (.ref f9)))(z10:Yd "history"=some (some (.ref f10)))(z11:Yd "may"=some (some (.ref f11)))(PN:Yd "released"=some (some (.ref f12)))(PM:Yd "ways"=some (some (.ref f13)))(z14:Yd "names"=some (some (.ref f14))):∀n x,(n,x)∈oG->∃f,Yd x=some ZaH/\((n:Int),f)∈[((1 :Int),f1),((2 :Int),f2),((3 :Int),f3),((4 :Int),f4),((5 :Int),f5),((6 :Int),f6),((7 :Int),f7),((8 :Int),f8),((9 :Int),f9),((10 :Int),f10),((11 :Int),f11),((12 :Int),f12),((13 :Int),f13),((14 :Int),f14)]:=λn x h=>by unfold oG at h;simp only[aJ,OA,mv,lV]at h;rcases h with⟨rfl,rfl⟩|⟨rfl,rfl⟩|⟨rfl,rfl⟩|⟨rfl,rfl⟩|⟨rfl,rfl⟩|⟨rfl,rfl⟩|⟨rfl,rfl⟩|⟨rfl,rfl⟩|⟨rfl,rfl⟩|⟨rfl,rfl⟩|⟨rfl,rfl⟩|⟨rfl,rfl⟩|⟨rfl,rfl⟩|⟨rfl,rfl⟩<;>exact⟨_,by assumption,by simp⟩
end
local macro_rules | `(tactic| simp! [$xs,*]) => `(tactic| simp only [o9, v_, qF, nM, lL, wW, tF, wd, sP, wm, lM, vY, nO, lD, nN, vP, vS, zy, tC, tB, wt, vV, vW, wq, vU, zA, wb, sJ, wk, sO, sM, tH, tG, wR, tI, tJ, jT, rI, wY, wG, we, nU, wO, wU, wo, yz, wV, wX, wQ, o_, qH, sI, vR, tE, vT, vX, zB, zC, ui, uh, uj, xB, ug, xA, vN, sQ, ud, vO, rU, vQ, tD, wj, wg, zD, pb, qG, sN, yB, yA, Nat.succ_eq_add_one, uR, wD, zP, zQ, zO, V.str.injEq, wB, xm, mU, AI, Bs, fold_succ, List.set_cons_zero, List.set_cons_succ, List.getElem?_cons_zero, List.getElem?_cons_succ, Option.some.injEq, exists_eq_left', exists_eq_left, exists_and_left, and_assoc, true_and, and_true, V.bl.injEq, HO.lst.injEq, HO.ins.injEq, HO.tup.injEq, V.ref.injEq, V.int.injEq, decide_true, decide_false, if_true, if_false, List.cons.injEq, Bool.false_eq_true, au, jP, exists_const, exists_eq', exists_eq, and_self, List.append_nil, List.nil_append, List.cons_append, List.append_assoc, L2.start, List.map_cons, List.map_nil, List.length_cons, List.length_nil, Nat.zero_add, Nat.reduceAdd, Nat.reduceSub, List.replicate_succ, List.replicate_zero, wipe, $xs,*])
section
abbrev asO:Zc:=["pairs","step","others","first","second"]
theorem Sf:aV asO yV (aA Jp):=Zl
abbrev aeZ:Zc:=["plan","step","later","earlier"]
theorem RQ:aV aeZ BS (aA Dh):=Zl
abbrev as7:Zc:=["plan","later","earlier","reached","place","before","step"]
theorem SS:aV as7 GO (aA JH):=Zl
theorem aiF(ps:ZX)(p:Xr)(s:Nat):bw (ps++[p]) s=bw ps s++((if p.1=s then [p.2]else [])++(if p.2=s then [p.1]else [])):=by unfold bw;rw[oQ];simp
theorem w_:∀(ps:ZX) (s:Nat),(bw ps s).length <=2*ps.length
 |[],s=>ZC
 |p::r,s=>by
  have ih:=w_ r s;unfold bw at ih⊢;rw[iR,bS,bb];have:((if p.1=s then [p.2]else [])++(if p.2=s then [p.1]else [])).length <=2:=by by_cases h1:p.1=s<;>by_cases h2:p.2=s<;>simp[h1,h2]
  omega
def C1:Sp:=λvs H Q _=>∃(a:Addr) (ps:ZX) (s:Nat),vs=[.ref a,nat s]/\U3 ps/\ps.length<=12/\
 ∀(H':Hp) (l:Addr),Zd->H l=none->H' l=some (.lst (nats (bw ps s)))->Z0 H'
def iT(ps:ZX)(s:Nat):Za:=(ps.filter λp=>p.1==s).map ZZ
def Ir(A:Ad):Sp:=λvs H Q _=>∃(p:Addr) (i:aW) (P:Plan) (s:Nat),vs=[.ref p,nat s]/\Y4/\P.after.length<=12/\
 ∀(H':Hp) (l:Addr),Zd->H l=none->H' l=some (.lst (nats (WS s)))->Z0 H'
theorem KS{ps:ZX}{x y:Nat}:y∈iT ps x↔(x,y)∈ps:=by
 unfold iT;rw[aO];ext b
 ·rintro⟨p,hp,rfl⟩;obtain⟨h1,h2⟩:=bD.mp hp;rw[←eq_of_beq h2];exact h1
 ·intro h;exact⟨(x,y),bD.mpr ⟨h,Zf⟩,rfl⟩
inductive Reach(ps:ZX):Nat->Nat->Prop
 |refl (a:Nat):Reach ps a a
 |step {a b c:Nat}:Reach ps a b->(b,c)∈ps->Reach ps a c
theorem n9:∀(n:Nat) (l:Za),l.Nodup->(∀x∈l,x<n)->l.length<=n
 |0,l,_,h=>by
  cases l with
  |nil=>exact ZC
  |cons a r=>exact absurd (h a aY) (OU _)
 |n+1,l,hn,h=>by
  by_cases hm:n∈l
  ·have h1:=atn hm;have h2:=n9 n (l.erase n) (hn.erase n) λx hx=>by
    have h3:=h x (List.mem_of_mem_erase hx);have h4:x≠n:=λe=>by subst e;exact hn.not_mem_erase hx
    omega
   omega
  ·have h2:=n9 n l hn λx hx=>by have h3:=h x hx;have h4:x≠n:=λe=>hm (e▸hx);omega
   omega
structure nv(ps:ZX)(j:Nat)(R:Za):Prop where
 nd:R.Nodup
 lt:∀x∈R,x<7
 reach:∀x∈R,ZfW x
 has:j∈R
theorem nv.start{ps:ZX}{j:Nat}(hj:j<7):nv ps j [j]:=
 ⟨df.mpr ⟨Zf,sq⟩,λx hx=>by rw[bo]at hx;omega,λx hx=>by rw[bo]at hx;subst hx;exact .refl _,Zf⟩
theorem nv.len{ps:ZX}{j:Nat}{R:Za}(h:nv ps j R):R.length<=7:=n9 7 R h.nd h.lt
theorem nv.more{ps:ZX}{j x y:Nat}{R:Za}(h:nv ps j R)(hx:x∈R)(hp:(x,y)∈ps)(hy:y<7)(hn:y∉R):nv ps j (R++[y]):=by
 refine⟨El h.nd hn,λz hz=>?_,λz hz=>?_,my _ h.has⟩
 ·rcases b8.mp hz with q|q
  ·exact h.lt z q
  ·rw[bo]at q;omega
 ·rcases b8.mp hz with q|q
  ·exact h.reach z q
  ·rw[bo]at q;subst q;exact .step (h.reach x hx) hp
def Done(ps:ZX)(R:Za)(t:Nat):Prop:=∀(m:Nat),m<t->∀x,R[m]? =some x->∀y,(x,y)∈ps->y∈R
theorem ahW{ps:ZX}{j:Nat}{R:Za}(h:nv ps j R)(d:Done ps R R.length){y:Nat}(r:ZfW y):y∈R:=by
 induction r with
 |refl=>exact h.has
 |step _ hp ih=>
  obtain⟨m,hm,e⟩:=y_.mp ih;exact d m hm _ (by rw[fP hm,e]) _ hp
def Rj(A:Ad):Sp:=λvs H Q _=>∃(p:Addr) (i:aW) (P:Plan) (j e:Nat),vs=[.ref p,nat j,nat e]/\Y4/\P.after.length<=12/\(∀y∈P.after,y.2<7)/\j<7/\
 ∀(H':Hp) (b:Bool),Zd->(b=true↔Reach P.after j e)->Q WB H'
section
variable {P:Program}{w:World}{K:PySem.W.Frag}{mg:Zy}{base:Heap}
theorem ajz{f:Addr}{fd:FuncData}(F:Zo "partners" "partners" Jp f fd):Z4 yV C1:=by
 have nd:=Sf.nd;refine F.ok Sf Zk (λaG A outer s H vs Q E hr h=>?_)
 ·obtain⟨a,ps,s,rfl,_⟩:=h;rfl
 ·obtain⟨a,ps,st,rfl,⟨rs,hl,hp⟩,hlen,k⟩:=h;refine⟨_,(ao Zdq
   (ao (dN dF rfl (ZV Yu) ZqJ (ao (bg (WG ZH ZE ZO) (ak (dU (Wo ZR ZaD))) bp)
   (ak (bg (bN cS (pv 4) (pv 1) (bB _)) (ak (dU (dq K dE ir iq gO (pv 2) (aa (pv 3) ai)))) bp))))
   (ak (ay (pv 2))))),?_⟩
  refine⟨ZI,λq hq=>?_⟩;have s1:ZQ (Zw q Ye):=a0 hq;refine⟨_,rfl,a,rfl,ZtR,gH (K:=K) (a:=a) W9 (λi σ H'=>∃v w:Option V,σ=[some ZY,some ZdB,some XO,v,w]/\Zd/\H' q=some (.lst (nats ZlJ)))
   ⟨none,none,rfl,s1,au⟩ (λi σ H' _ ⟨_,_,_,s2,_⟩=>ag.of (s2.at hl)) ?_ ?_⟩
  ·rintro i y σ H' hi ⟨v,w,rfl,s2,cF⟩;obtain⟨r,hr,rfl⟩:=get_map hi;obtain⟨p,hpi,htr⟩:=gN hp hr;have bG:(bw (ps.take i) st).length <=2*i:=cq (w_ _ _) (by rw[eY];omega);have L0:i<ps.length:=(iQ.mp hpi).1;ext c;refine⟨r,_,rfl,bM.of (s2.at htr),rfl,?_⟩;have sp:∀o,ZQ (Wz q o):=λo=>bV s2 hq;have e2:ps.take YU=ps.take i++[p]:=dA hpi;have n1:(nats ZlJ).length <sizeLine:=by rw[bA];omega
   have n2:∀x,(nats ZlJ++[x]).length <sizeLine:=λx=>by rw[bS,bA];simp;omega
   by_cases h1:p.1=st<;>by_cases h2:p.2=st<;>
    simp! [h1,h2,e2,aiF,cQ cF,cF,n1,n2,cQ au,sp,s2,lg,KG,KD]
  ·rintro σ H' ⟨v,w,rfl,s2,cF⟩;rw[aq,du hp,eg]at cF;exact⟨_,rfl,k H' q s2 hq cF⟩
theorem aja{A:Ad}{f:Addr}{fd:FuncData}(T:Zm)(F:Zo "told_before" "told_before" Dh f fd):Z4 BS (Ir A):=by
 have nd:=RQ.nd;refine F.ok RQ Zk Zn
 ·obtain⟨p,i,P,s,rfl,_⟩:=h;rfl
 ·obtain⟨p,i,P,st,rfl,hP,hlen,k⟩:=h;have hu:=gi hr;obtain⟨rs,hl,hp⟩:=hP.after;refine⟨_,(ak (ay (dW (own:=[("later",2),("earlier",3)]) rfl nd (ZV (jj hu Yp cW Z3)) (show cB aeZ (aA Dh) _ _ from Yi) (λ_ _ _ _ _=>Zck) (λ_ _ _ _ _=>iX (WG ZR ZE ZO)) (λ_ _ _ _ _=>ZH)))),?_⟩;have nn:=Zaq;have dg:bZ H i.d (.str "after") (some (.ref i.a)):=ZkR hP.pairs;ext c;simp! [hP.ins,T.bU,nn,nY];refine⟨_,dg,i.a,rfl,ZcP,e8 (zs:=P.after) Zju (by rw[aq];exact du hp) Zb (λz=>z.1==st) (λz=>nat z.2) (λj x z H' hx hz s1 R S hR hS=>?_) (λD H' hD s1 h=>Zfu (by rw[h];unfold iT nats;rw[bz];rfl))⟩;obtain⟨r,hr,rfl⟩:=UD;obtain⟨z',br,ht⟩:=gN hp hr;ext O
  refine⟨r,_,rfl,bM.of (s1.at ht),rfl,?_⟩;by_cases h1:z.1=st
  ·simp! [h1];exact hR (by simp[h1]) H' ZW
  ·simp! [h1];exact hS (by simp[h1]) H' ZW
theorem aka{A:Ad}{f:Addr}{fd:FuncData}(T:Zm)(yl:ZrX)(F:Zo "comes_after" "comes_after" JH f fd):X5 GO (Rj A):=by
 have nd:=SS.nd;refine F.ok SS Zk Zn
 ·obtain⟨p,i,P,j,e,rfl,_⟩:=h;rfl
 ·obtain⟨p,ix,P,j,e,rfl,hP,hlen,aC,hj,k⟩:=h;ext j;refine⟨_,(ao (Xj (bh Ws))
   (ao (Zcg aR)
   (ao (Ke dF (bN qX Yh (Xd X4) ZO) (ao (bq 5 nd (az yl hr rfl (ZL (aa (Wk ZH Yh Z3) ai))))
   (ao (dN dF rfl (ZV W3) (aZ 6 nd) (ak (bg (Zgj Za4 ZH rfl) (ak (dU (Wo ZH (aa Za4 ai)))) bp)))
   (ak (T_ 4 nd aR ab6)))))
   (ak (ay (eE (km K) (pv 2) (pv 3) rfl)))))),?_⟩
  ext a;refine ZjQ;have s1:ZQ (Zw q (.lst [nat j])):=a0 hq;obtain⟨Pw,cj⟩:∃Pw:L2.St->Hp->Prop,∀σ H',Pw σ H'↔∃(R:Za) (t:Nat) (v5 v6:ZM),σ=[some Z7,some (nat j),some (nat e),some XO,some (nat t),v5,v6]/\Zd/\H' q=some ZmT/\nv P.after j R/\t<=R.length/\Done P.after R t:=ZmQ;refine HP Pw (fun σ _=>8-natAt σ 4) ((cj _ _).mpr ⟨[j],0,none,none,rfl,s1,au,nv.start hj,ZI,λm hm=>absurd hm (OU _)⟩) ?_ ?_
  ·intro σ H1 hw;obtain⟨R,t,v5,v6,rfl,s2,i7,hR,ht,hD⟩:=(cj _ _).mp hw;have hRl:R.length<=7:=hR.len;have am6:oT K XO H1 R.length:=.inl ⟨_,ag.of i7,(bA R).symm⟩;ext a;refine⟨R.length,am6,?_⟩;by_cases bG:t<R.length
   ·obtain⟨x,hx⟩:=fM bG;have A1:(t:Int)<(R.length:Int):=by omega
    have hxR:x∈R:=bI hx;simp! [A1];refine⟨_,ag.of i7,_,bQ (akU hx),p,ix,P,x,rfl,Zf1,hlen,λH2 l s3 cY hl=>?_⟩;have hlq:l≠q:=λe=>by subst e;rw[cY]at i7;cases i7
    obtain⟨Pv,aB⟩:∃Pv:Nat->L2.St->Hp->Prop,∀m σ H',YK H'↔∃(R':Za) (v6:ZM),σ=[some Z7,some (nat j),some (nat e),some XO,some (nat t),some Z6,v6]/\Zd/\H' l=some (.lst (nats (WS x)))/\H' q=some (.lst (nats R'))/\nv P.after j R'/\R<+:R'/\∀y∈(WS x).take m,y∈R':=Yg;refine⟨l,rfl,ZcP,gH (nats (WS x)) Pv
     ((aB _ _ _).mpr ⟨R,v6,rfl,s2.trans s3,hl,s3.at i7,hR,List.prefix_refl R,λy hy=>by simp at hy⟩) (λi σ H' _ hv=>let⟨_,_,_,_,h,_⟩:=(aB _ _ _).mp hv;ag.of h) ?_ ?_⟩
    ·intro m y σ H' hy hv;ext cu;obtain⟨z,hz,rfl⟩:=Wr;have br:z∈WS x:=Xv;have rC:(x,z)∈P.after:=KS.mp br;have am7:=bc.len;have e1:(WS x).take XG=(WS x).take m++[z]:=dA hz;have n1:(nats R').length <sizeLine:=by rw[bA];omega
     ext a;refine TU cF ?_;by_cases iI:z∈R'
     ·have hc:R'.contains z=true:=bx.mpr iI;simp! [hc,qy];refine(Zi _).mpr ⟨R',some (nat z),rfl,s4,uz,cF,bc,jv,λy hy=>?_⟩;rw[e1]at hy;rcases b8.mp hy with h|h
      ·exact dB y h
      ·rw[bo]at h;subst h;exact iI
     ·have hc:R'.contains z=false:=by
       cases e:R'.contains z with
       |false=>rfl
       |true=>exact ZmY iI
      simp! [hc,vE,cQ cF,cF,n1];refine(Zi _).mpr ⟨R'++[z],some (nat z),rfl,bV s4 hq,by rw[ax hlq];exact uz,by rw[au,KC],bc.more (jv.subset hxR) rC (aC _ rC) iI,jv.trans (List.prefix_append _ _),λy hy=>?_⟩;rw[e1]at hy;rcases b8.mp hy with h|h
      ·exact my _ (dB y h)
      ·exact je _ h
    ·intro σ H' hv;ext cu;have anJ:∀y∈WS x,y∈R':=λy hy=>dB y (by rw[bA,eg];exact hy);have am7:=bc.len;have hle:R.length<=R'.length:=jv.length_le;have AZ:8-natAt [some Z7,some (nat j),some (nat e),some XO,some (nat (t+1)),some Z6,v6] 4<8-natAt [some Z7,some (nat j),some (nat e),some XO,some (nat t),v5,v6] 4:=by show 8-(t+1)<8-t;omega
     ext a;refine⟨(cj _ _).mpr ⟨R',t+1,some Z6,v6,rfl,s4,cF,bc,Zb,λm hm x' js y hy=>?_⟩,AZ⟩;by_cases hmt:m<t
     ·refine jv.subset (hD m hmt x' ?_ y hy);obtain⟨r,er⟩:=jv;rw[←er,afC Zb]at js;exact js
     ·have emt:m=t:=by omega
      subst emt;obtain⟨r,er⟩:=jv;rw[←er,afC Zb,hx]at js;cases js
      exact anJ y (KS.mpr hy)
   ·have A1:¬(t:Int)<(R.length:Int):=by omega
    simp! [A1];have et:t=R.length:=by omega
    refine nW i7 ?_;refine k H1 _ s2 ⟨λh=>hR.reach _ (bx.mp h),λh=>bx.mpr (ahW hR (et▸hD) h)⟩
  ·ext bJ
end
end
section
open Vbwbal (signer load goesWith fits unsigned)
abbrev aeY:Zc:=["record","step","signer"]
theorem RO:aV aeY nz (aA Dg):=Zl
abbrev ae4:Zc:=["record","person","absent"]
theorem Sa:aV ae4 yU (aA Dm):=Zl
abbrev asH:Zc:=["record","person"]
theorem R4:aV asH yT (aA Ji):=Zl
abbrev ae7:Zc:=["record","person","step","wanted","role"]
theorem Ss:aV ae7 BX (aA Dr):=Zl
abbrev OY:Zc:=["record","word","step","signers","other","signer"]
theorem Sg:aV OY Gx (aA zS):=Zl
abbrev afb:Zc:=["record","person","step","signer"]
theorem SI:aV afb B2 (aA Dv):=Zl
def kU(P:Plan)(ab:Za):Za:=(List.range P.persons.length).filter λx=>!(ab.contains x)
def ph(A:Ad):Sp:=λvs H Q _=>∃(r:Addr) (i:bC) (j:aW) (P:Plan) (ab:Za) (c:Choice),vs=[.ref r]/\YM/\ZG/\
 ∀(H':Hp) (l:Addr),Zd->H l=none->H' l=some (.lst (nats Z8))->Z0 H'
def C0(A:Ad):Sp:=λvs H Q _=>∃(r:Addr) (i:bC) (j:aW) (P:Plan) (ab:Za) (c:Choice),vs=[.ref r]/\YM/\ZG/\
 ∀(H':Hp) (l:Addr),Zd->H l=none->H' l=some (.lst (nats (kU P ab)))->Z0 H'
def CZ(A:Ad):Sp:=λvs H Q _=>∃(r:Addr) (i:bC) (j:aW) (P:Plan) (ab:Za) (c:Choice) (x:Nat),vs=[.ref r,nat x]/\YM/\Xm/\x<P.persons.length/\
 Q (.int ((cy P x:Int)-(load c x:Int))) H
def Iy(A:Ad):Sp:=λvs H Q _=>∃(r:Addr) (i:bC) (j:aW) (P:Plan) (ab:Za) (c:Choice) (x s:Nat),vs=[.ref r,nat x,nat s]/\YM/\ZG/\x<P.persons.length/\s<P.steps.length/\
 ∀(H':Hp),Zd->Q (.bl (YG x)) H'
def QZ(A:Ad):Sp:=λvs H Q _=>∃(r:Addr) (i:bC) (j:aW) (P:Plan) (ab:Za) (c:Choice) (word:Str) (a:Addr) (ps:ZX) (s:Nat),vs=[.ref r,.str word,nat s]/\YM/\
 bZ H j.d (.str word) Zf3/\U3 ps/\ps.length<=12/\(∀y∈ps,y.1<P.steps.length/\y.2<P.steps.length)/\
 ∀(H':Hp) (l:Addr),Zd->H l=none->H' l=some (.lst (nats (kj ps c s)))->Z0 H'
def IC(A:Ad):Sp:=λvs H Q _=>∃(r:Addr) (i:bC) (j:aW) (P:Plan) (ab:Za) (c:Choice) (x s:Nat),vs=[.ref r,nat x,nat s]/\YM/\ZG/\Xm/\x<P.persons.length/\
 ∀(H':Hp),Zd->Q (.bl (YT x)) H'
theorem EI(o:Option Nat):decide (lW o=.ba)=o.isNone:=by
 cases o with
 |none=>rfl
 |some x=>rfl
theorem tw{n i:Nat}{z:Nat}(h:(List.range n)[i]? =some z):z=i/\i<n:=by obtain⟨hi,e⟩:=iQ.mp h;rw[List.getElem_range]at e;rw[eM]at hi;exact⟨e.symm,hi⟩
theorem J6{n i:Nat}{f:Nat->V}{x:V}(h:((List.range n).map f)[i]? =some x):x=f i/\i<n:=by obtain⟨z,hz,rfl⟩:=get_map h;obtain⟨e,hi⟩:=tw hz;rw[e];exact⟨rfl,hi⟩
theorem IK{P:Plan}{c:Choice}{s:Nat}(h:s<P.steps.length):(ic P c)[s]? =some (lW (ZS s)):=by unfold ic;rw[cx,zc h];rfl
theorem aeA{P:Plan}{ab:Za}{x:Nat}(h:ZhO):(kO P ab)[x]? =some (.bl Zit):=by unfold kO;rw[cx,zc h];rfl
theorem Ry(P:Plan)(c:Choice):(ic P c).length =P.steps.length:=by unfold ic;rw[aq,eM]
theorem Om(P:Plan)(ab:Za):(kO P ab).length =P.persons.length:=by unfold kO;rw[aq,eM]
theorem ahv(P:Plan)(c:Choice):(ic P c).all il=true:=by unfold ic;rw[mB];refine dh.mpr λs _=>?_;show il (lW (ZS s))=true;cases signer c s<;>rfl
theorem ahw{P:Plan}{c:Choice}(x:Nat)(hc:Xm):((ic P c).countP λz=>jG z XW)=YA x:=by
 unfold ic;rw[List.countP_map,←abd c x P.steps.length hc.nd hc.steps];congr 1;funext s;show jG (lW (ZS s)) XW=(ZS s==some x);cases signer c s with
 |none=>rfl
 |some y=>
  show((y:Int)==(x:Int))=(some y==some x);by_cases h:y=x
  ·subst h;simp
  ·have h1:((y:Int)==(x:Int))=false:=ip.mpr (λq=>h (mE q));rw[h1];simp[h]
theorem ak1{P:Plan}{x:Nat}(h:ZhO):(P.persons.map λy=>nat y.most)[x]? =some (nat (YH x)):=by unfold cy;rw[cx,fP h];rfl
section
variable {P:Program}{w:World}{K:PySem.W.Frag}{mg:Zy}{base:Heap}{A:Ad}
theorem ai8{f:Addr}{fd:FuncData}(T:Zm)(F:Zo "unsigned_steps" "unsigned_steps" Dg f fd):Z4 nz (ph A):=by
 have nd:=RO.nd;refine F.ok RO Zk Zn
 ·ext K
 ·ext a1;have aT:=wf.steps;refine⟨_,(ak (ay (dW (own:=[("step",1),("signer",2)]) rfl nd ZhD (show cB aeY (aA Dg) _ _ from Yi) ZjK (λ_ _ _ _ _=>iX (bN Ks ZR tM ZO)) ZhK))),?_⟩;have nn:=ZcE;simp! [hR.ins,T.dD,nn,wN];refine⟨_,Zi8,Ew (zs:=List.range P.steps.length) Zi8 (by rw[Ry,eM]) (by rw[eM];omega) (λs=>(ZS s).isNone) nat ZjY Zee⟩;ext aW;ext r;simp! [EI];cases e:(ZS z).isNone with
  |true=>exact ZlU
  |false=>exact ZlT
theorem aju{f:Addr}{fd:FuncData}(T:Zm)(F:Zo "present_persons" "present_persons" Dm f fd):Z4 yU (C0 A):=by
 have nd:=Sa.nd;refine F.ok Sa Zk Zn
 ·ext K
 ·ext a1;have aT:=wf.persons;refine⟨_,(ak (ay (dW (own:=[("person",1),("absent",2)]) rfl nd ZhD (show cB ae4 (aA Dm) _ _ from Yi) ZjK (λ_ _ _ _ _=>iX (eR ZnL)) ZhK))),?_⟩;have nn:=ZcG;simp! [hR.ins,T.dD,nn,z_];refine⟨_,Zie,Zoj (λx=>!(ab.contains x)) nat ZjY Zee⟩;ext aW;ext r;simp! [yO];cases e:(!(ab.contains z))with
  |true=>exact ZlU
  |false=>exact ZlT
theorem ajm{f:Addr}{fd:FuncData}(T:Zm)(F:Zo "room_of" "room_of" Ji f fd):Z4 yT (CZ A):=by
 have nd:=R4.nd;refine F.ok R4 Zk Zn
 ·obtain⟨r,i,j,P,ab,c,x,rfl,_⟩:=h;rfl
 ·obtain⟨r,i,j,P,ab,c,x,rfl,hR,wc,hx,k⟩:=h;refine⟨_,(ak (ay (cR qW (Wk ZcI ZE Z3) (dq K dE asi PySem.F.type_list_count (ak0 K) Yp Ws)))),?_⟩;ext v;have n2:=ZcE;have n3:=Zh5;simp! [hR.ins,T.dD,n1,n2,lR,wN,hR.plan.ins,T.bU,n3,Ac,TZ];refine⟨_,ag.of hR.plan.eF,_,bQ (ak1 hx),cQ hR.ib,_,Zi8,rfl,ahv _ _,?_⟩;rw[ahw x wc];exact⟨_,rfl,k⟩
theorem ajM{f:Addr}{fd:FuncData}(T:Zm)(F:Zo "may_do" "may_do" Dr f fd):Z4 BX (Iy A):=by
 have nd:=Ss.nd;refine F.ok Ss Zk Zn
 ·obtain⟨r,i,j,P,ab,c,x,s,rfl,_⟩:=h;rfl
 ·obtain⟨r,i,j,P,ab,c,x,st,rfl,hR,wf,hx,hs,k⟩:=h;refine⟨_,(ao (bg (Z5 ZnM Z2) Ut bp)
   (ao (Xj (Wk ZcI ZR Z3))
   (ak (ay (bW (BD K rfl) (by rfl) T.xn BK (aa (dW (own:=[("role",4)]) rfl nd (cf K (bj (bF K) (aD K (aD K (pv 0) rfl) rfl) (pv 1) (λ_ _=>rfl))) (show cB ae7 (aA Dr) _ _ from cP (by decide+kernel)) (λ_ _ _ _ _=>(aZ 4 nd)) (λ_ _ _ _ _=>fU) (λ_ _ _ _ _=>(eE (km K) (pv 4) (pv 3) rfl))) ai)))))),?_⟩
  ext v;have n2:=ZcG;have n3:=Zhu;have n4:=Zhj;obtain⟨t,ht⟩:=fM hs;obtain⟨y,hy⟩:=fM hx;obtain⟨rs,h1,h2⟩:=hR.plan.sr;obtain⟨rp,h3,h4⟩:=hR.plan.pr;obtain⟨a1,e1,j6⟩:=Aj h2 (i:=st) (b:=t.roles) (by rw[cx,ht];rfl);obtain⟨a2,e2,jD⟩:=Aj h4 (i:=x) (b:=y.roles) (by rw[cx,hy];rfl);have g1:(rs.map V.ref)[st]? =some (.ref a1):=by rw[cx,e1];rfl
  have g2:(rp.map V.ref)[x]? =some (.ref a2):=by rw[cx,e2];rfl
  have ef:V7 st x=(!(ab.contains x)&&y.roles.any λr=>t.roles.contains r):=by unfold fits;rw[ht,hy]
  have hl:=wf.mO y (bI hy);simp! [hR.ins,T.dD,n1,n2,lR,z_,hR.plan.ins,T.bU,n3,n4,DV,DW];refine⟨_,Zie,_,bQ (aeA hx),_,rfl,?_⟩;cases e:ab.contains x with
  |true=>
   refine aI (?_ :Q ZaE H);have:=k H ZfA;rw[ef,e]at this;ext d
  |false=>
   ext g;refine⟨_,ag.of h1,_,bQ g1,_,ag.of h3,_,bQ g2,a2,rfl,⟨_,ag.of jD⟩,e8 (zs:=y.roles) (ag.of jD) XF Zb Xa (λz=>.bl (t.roles.contains z)) Zbd Va⟩
   ·ext o
    ext a;exact nW (s1.at j6) ZcS
   ·refine⟨_,rfl,y.roles.map λz=>t.roles.contains z,ZgS,?_⟩;have:=Wy;rw[ef,e]at this;rw[vw];ext d
theorem ajA{f:Addr}{fd:FuncData}(T:Zm)(p9:Zlp)(F:Zo "partner_signers" "partner_signers" zS f fd):X5 Gx (QZ A):=by
 have nd:=Sg.nd;refine F.ok Sg Zk Zn
 ·obtain⟨r,i,j,P,ab,c,word,a,ps,s,rfl,_⟩:=h;rfl
 ·obtain⟨r,i,j,P,ab,c,word,a,ps,st,rfl,hR,hd,m8,hlen,aC,k⟩:=h;have hu:=gi hr;refine⟨_,(ao (pz 3 (own:=[("other",4)]) rfl nd (ZV (az p9 hr rfl (aa (jj hu ZcI ZE Z3) Y7))) (show cB OY (aA zS) _ _ from Yi) Zcr Xe (λ_ _ _ _ _=>(ZaU Yh Z3)))
   (ak (ay (dW (own:=[("signer",5)]) rfl nd (cf K (pv 3)) (show cB OY (aA zS) _ _ from cP (by decide+kernel)) (λ_ _ _ _ _=>(aZ 5 nd)) (λ_ _ _ _ _=>iX (bN aaI (pv 5) tM (bB _))) (λ_ _ _ _ _=>(pv 5)))))),?_⟩
  ext v;have n2:=ZcE;have n3:=Zaq;have bH:=w_ ps st;simp! [hR.ins,T.dD,n1,lR,hR.plan.ins,T.bU,n3,nY];refine⟨_,hd,a,ps,st,rfl,m8,hlen,λH1 l s1 cY hl=>?_⟩;have fK:=XB;refine⟨l,rfl,ZcP,e8 (zs:=bw ps st) Zju XF Zb Xa (λz=>lW (ZS z)) Zqr (λD H' hD s2 h=>?_)⟩
  ·ext o
   have j7:=fK.same s2;have cE:z<P.steps.length:=by
    rcases gC.mp Xv with q|q
    ·exact(aC _ q).2
    ·exact(aC _ q).1
   simp! [j7.ins,T.dD,n2,wN];exact⟨_,ag.of j7.ib,_,bQ (IK cE),bc rfl _ ZW⟩
  ·have hD':H' D=some (.lst ((bw ps st).map λz=>lW (ZS z))):=by rw[h,filter_all]
   ext a;refine⟨⟨_,ag.of hD'⟩,e8 (zs:=(bw ps st).map λz=>ZS z) (ag.of hD') Zf (by rw[aq];omega) (λo=>o.isSome) lW (λm v z nE hv hz s3 R S bc hS=>?_) (λD2 nE yi s3 h2=>?_)⟩
   ·obtain⟨y,hy,rfl⟩:=Zby;obtain⟨y',jX,rfl⟩:=get_map hz;rw[hy]at jX;cases jX
    simp! [EI];cases e:ZS y with
    |none=>
     rw[e]at hS;exact aF (hS rfl _ ZW)
    |some q=>
     rw[e]at bc;exact aI ZcS
   ·refine k nE D2 ZgQ ((s1.trans s2).free yi) ?_;rw[h2];congr 2;unfold kj nats;generalize bw ps st=L
    induction L with
    |nil=>rfl
    |cons b r ih=>
     rw[cw,jf,He];cases e:ZS b with
     |none=>exact ih
     |some q=>
      show(lW (some q)::_)=(nat q::_);exact cb (nat q:: ·) ih
theorem aev(x:Nat)(l:Za):((l.map λy=>!decide (y=x)).any id=false)↔∀y∈l,y=x:=by rw[vw,afO];exact⟨λh y hy=>by simpa using h y hy,λh y hy=>by simpa using h y hy⟩
theorem aj0{f:Addr}{fd:FuncData}(T:Zm)(FA:Zv "partner_signers" Gx 2 (QZ A))(p7:ZkP)(F:Zo "goes_with" "goes_with" Dv f fd):VM B2 (IC A):=by
 have nd:=SI.nd;refine F.ok SI Zk Zn
 ·obtain⟨r,i,j,P,ab,c,x,s,rfl,_⟩:=h;rfl
 ·obtain⟨r,i,j,P,ab,c,x,st,rfl,hR,wf,wc,hx,k⟩:=h;have hu:=gi hr;refine⟨_,(ao (bg (bN VZ ZE ZqS rfl) Ut bp)
   (ao (bg (Z5 (ZgW (aa (dW (own:=[("signer",3)]) rfl nd (ZV ZqS) (show cB afb (aA Dv) _ _ from Yi) ZhL Xe (λ_ _ _ _ _=>(eE xh ZH ZE ZO))) ai)) Z2) Ut bp)
   (ak (ay (eE pD (az p7 hr rfl (aa (pv 0) (aa (pv 1) ai))) aR (bB _)))))),?_⟩
  have no:Zb8 x=false->∀H',Zd->Q ZaE H':=λe H' s=>by have:=k H' s;rw[e]at this;exact this
  have eq:=nq P c st x;ext a;refine⟨r,i,j,P,ab,c,_,j.u,P.unlike,st,rfl,hR,Zep hR.plan.pairs,hR.plan.unlike,wf.unlike,λy hy=>XE (.inr Zf6),λH1 l s1 cY hl=>?_⟩;have au4:(Zc9 st).length <=24:=by have h1:=w_ P.alike st;have h2:=wf.alike;have h3:(Zc9 st).length <=(Xy st).length :=O9 _ _;omega
  refine nW hl ?_;cases e1:(kj P.unlike c st).contains x with
  |true=>
   ext a;refine no ?_ H1 s1;cases e:Zb8 x with
   |false=>rfl
   |true=>exact absurd (bx.mp e1) (eq.mp e).1
  |false=>
   ext a;have fK:=XB;refine⟨r,i,j,P,ab,c,_,j.l,P.alike,st,rfl,fK,Zer fK.plan.pairs,fK.plan.alike,wf.alike,λy hy=>XE ZhZ,λH2 l2 s2 LU bH=>?_⟩;refine⟨l2,rfl,⟨_,ag.of bH⟩,e8 (zs:=Zc9 st) (ag.of bH) XF Zb Xa (λz=>.bl (!decide (z=x))) Zqs (λD H' hD s3 h=>?_)⟩
   ·ext o
    ext a;exact bc rfl _ ZW
   ·refine⟨_,rfl,(Zc9 st).map λz=>!decide (z=x),ZgS,_,rfl,?_⟩;ext S;cases e2:((Zc9 st).map λz=>!decide (z=x)).any id with
    |true=>
     ext a;refine no ?_ H' cG;cases e:Zb8 x with
     |false=>rfl
     |true=>
      have:=(aev x _).mpr (eq.mp e).2.1;rw[this]at e2;cases e2
    |false=>
     ext a;have oC:=hR.same cG;refine⟨r,i,j,P,ab,c,x,rfl,oC,wc,hx,?_⟩;have:=k H' cG;have e3:Zb8 x=decide (0<(cy P x:Int)-(load c x:Int)):=by
      rw[iS,eq,bX];ext b
      ·rintro⟨_,_,h⟩;have:YA x<YH x:=h;omega
      ·intro h;refine⟨λhm=>?_,(aev x _).mp e2,?_⟩
       ·rw[bx.mpr hm]at e1;cases e1
       ·show YA x<YH x;omega
     rw[e3]at this;exact⟨_,rfl,this⟩
end
end
section
open Vbwbal (signer load goesWith fits unsigned)
abbrev O0:Zc:=["record","options","step","able","person"]
theorem Sk:aV O0 qm (aA zU):=Zl
abbrev as4:Zc:=["options","step","person","narrower"]
theorem SJ:aV as4 B3 (aA JE):=Zl
abbrev asQ:Zc:=["options","steps","fewer","step"]
theorem Sl:aV asQ GA (aA Jr):=Zl
abbrev aeX:Zc:=["options","persons","narrower","step","person"]
theorem RJ:aV aeX Gg (aA Df):=Zl
def jc(H:Hp)(kv:Key×V)(p:Zay):Prop:=kv.1=Sum.inl (p.1:Int)/\∃r,kv.2=.ref r/\H r=some (.lst (nats p.2))
def fO(H:Hp)(d:Addr)(o:cz):Prop:=∃kvs,H d=some Yt/\Zam o
theorem jc.same{H H':Hp}(s:Zd){kv:Key×V}{p:Zay}(h:jc H kv p):jc H' kv p:=by obtain⟨h1,r,h2,h3⟩:=h;exact⟨h1,r,h2,s.at h3⟩
theorem fO.same{H H':Hp}(s:Zd){d:Addr}{o:cz}(h:Za1):fO H' d o:=by obtain⟨kvs,h1,h2⟩:=h;exact⟨kvs,UZ,gA (λ_ _ q=>q.same s) h2⟩
theorem Kq{H:Hp}{s:Nat}:∀{kvs:Yb} {o:cz},Zam o->s∉keys o->W4 Zhn=none
 |_,_,.nil,_=>rfl
 |_,_,.cons h t,hn=>by
  ext aJ;have h1:¬kv.1=Sum.inl (s:Int):=λe=>by rw[h.1]at e;exact hn (by have:p.1=s:=mE (oN e);unfold keys;rw[cw,this];exact aY)
  rw[sF h1];exact Kq t λm=>hn (ZD m)
theorem qV{H:Hp}{s:Nat}{l:Za}:∀{kvs:Yb} {o:cz},Zam o->(keys o).Nodup ->(s,l)∈o->∃r,W4 Zhn=some Yr/\H r=some ZeX
 |_,_,.nil,_,hm=>by cases hm
 |_,_,.cons h t,hn,hm=>by
  ext aJ;obtain⟨h1,h2⟩:=df.mp (show(p.1::keys l2).Nodup from hn);rcases aJ.mp hm with e|e
  ·subst e;obtain⟨e1,r,e2,e3⟩:=h;exact⟨r,by rw[zo e1,e2],e3⟩
  ·have h3:¬kv.1=Sum.inl (s:Int):=λq=>by rw[h.1]at q;have e4:p.1=s:=Zjr;exact h1 (by rw[e4];exact aO.mpr Zc0)
   rw[sF h3];exact qV t h2 e
theorem Kp{H:Hp}{s:Nat}{l:Za}{r:Addr}{kvs:Yb}{o:cz}(h:Zam o)(hn:s∉keys o)(hr:H r=some ZeX):Zsw (o++[(s,l)]):=by rw[ah4 _ (Kq h hn)];exact ql h ⟨rfl,r,rfl,hr⟩
theorem xf{H:Hp}{kvs:Yb}{o:cz}(h:Zam o):kvs.length=o.length:=du h
theorem atX(a b:cz):keys (a++b)=keys a++keys b:=cA
theorem zx{α:Type}{l:ZN}{i:Nat}{x:α}(hn:l.Nodup)(h:l[i]? =some x):x∉l.take i:=by intro hm;obtain⟨j,hj,e⟩:=y_.mp hm;rw[eY]at hj;rw[List.getElem_take]at e;obtain⟨hi,e2⟩:=iQ.mp h;have:=(afx (i:=j) (j:=i) (h₀:=by omega) (h₁:=hi) hn).mp (e.trans e2.symm);omega
theorem asb(P:Plan)(ab:Za)(c:Choice)(s:Nat):((kU P ab).filter λx=>YG x).filter (λx=>YT x)=ZJ s:=by
 unfold kU bR;rw[qt,qt];refine nD λx _=>?_;cases h1:YG x with
 |false=>simp
 |true=>
  rw[Nr h1];simp
theorem aby(P:Plan)(ab:Za)(c:Choice)(s:Nat):(ZJ s).length <=P.persons.length:=by unfold bR;exact Zbe
theorem xy(P:Plan)(ab:Za)(c:Choice):keys XH=Z9 c:=by unfold keys c_;rw[bz];exact Zgt
theorem D_{o:cz}{s:Nat}(h:s∈keys o):(s,fE o s)∈o:=by
 unfold fE;cases e:o.find? λp=>p.1==s with
 |none=>
  obtain⟨p,hp,e2⟩:=UO;have:=Hd.mp e p hp;simp[e2]at this
 |some p=>
  have h1:=G8 e;have h2:p.1=s:=by simpa using afG e
  show(s,p.2)∈o;rw[←h2];exact h1
theorem aiK{H:Hp}{s:Nat}{l:Za}{r:Addr}{kvs:Yb}{o:cz}(h:Zam o)(hm:s∈keys o)(hr:H r=some ZeX):Zsw (o.map λp=>if p.1=s then(s,l)else p):=by
 have ha:(kvs.any λkv=>decide (kv.1=Sum.inl (s:Int)))=true:=by obtain⟨p,hp,e⟩:=aO.mp hm;obtain⟨i,hi,e2⟩:=y_.mp hp;obtain⟨kv,h1,h2⟩:=Aj h (i:=i) (b:=p) (by rw[fP hi,e2]);refine afN.mpr ⟨kv,bI h1,bu ?_⟩;rw[h2.1,e]
 unfold putK;rw[af ha];clear ha hm
 induction h with
 |nil=>exact .nil
 |cons h t ih=>
  ext aJ;refine .cons ?_ ih;show jc H (if kv.1=Sum.inl (s:Int)then(kv.1,V.ref r)else kv) (if p.1=s then(s,l)else p);by_cases e:p.1=s
  ·rw[af (show kv.1=Sum.inl (s:Int) by rw[h.1,e]),af e];exact⟨by rw[h.1,e],r,rfl,hr⟩
  ·rw[ae (show¬kv.1=Sum.inl (s:Int) by rw[h.1];exact λq=>e Zjr),ae e];exact h
theorem aln{H H':Hp}{d:Addr}{kvs:Yb}{od:Obj}(h:H d=some Yt)(s:ah (Zw d Zc1) H'):ZQ (Wz d Yt):=
 SameBut.unlock ((IS h).same s) h (s.at au)
theorem Kr{H H':Hp}{d:Addr}{u:HO}(h:ZfU)(hu:∀xs,u≠.lst xs)(s:∀b o,b≠d->NT o->H b=some o->H' b=some o){kv:Key×V}{p:Zay}(q:jc H kv p):jc H' kv p:=by obtain⟨q1,r,q2,q3⟩:=q;exact⟨q1,r,q2,s r _ (ie q3 h λe=>hu _ e.symm) trivial q3⟩
def ID:Sp:=λvs H Q _=>∃(d:Addr) (o:cz) (s x:Nat),vs=[.ref d,nat s,nat x]/\Za1/\s∈keys o/\o.length<=7/\
 ∀(H':Hp) (d':Addr),Zd->H d'=none->fO H' d' (kK o s x)->Zjh H'
def Q4:Sp:=λvs H Q _=>∃(d l:Addr) (o:cz) (ss:Za),vs=[.ref d,.ref l]/\Za1/\(keys o).Nodup /\H l=some Zan/\ss.Nodup/\(∀s∈ss,s∈keys o)/\ss.length<=7/\
 ∀(H':Hp) (d':Addr),Zd->H d'=none->fO H' d' (ko o ss)->Zjh H'
def QI:Sp:=λvs H Q _=>∃(d l:Addr) (o:cz) (xs:Za),vs=[.ref d,.ref l]/\Za1/\(keys o).Nodup /\o.length<=7/\(∀p∈o,p.2.length<=7)/\H l=some Zh0/\
 ∀(H':Hp) (d':Addr),Zd->H d'=none->fO H' d' (jO o xs)->Zjh H'
def sV(A:Ad):Sp:=λvs H Q _=>∃(r:Addr) (i:bC) (j:aW) (P:Plan) (ab:Za) (c:Choice),vs=[.ref r]/\YM/\ZG/\Xm/\
 ∀(H':Hp) (d:Addr),Zd->H d=none->fO H' d XH->Q Wc H'
section
variable {P:Program}{w:World}{K:PySem.W.Frag}{mg:Zy}{base:Heap}{A:Ad}
theorem ajF{f:Addr}{fd:FuncData}(T:Zm)(fA:Zac)(p8:Zkf)
  (yq:ZtB) (yu:Zsz) (F:Zo "open_options" "open_options" zU f fd):YV 4 f fd qm (sV A):=by
 have nd:=Sk.nd;refine F.ok Sk Zk Zn
 ·ext K
 ·ext aZ;ext j;ext aI;have uw:=wf.steps;refine⟨_,(ao (W2 DZ)
   (ao (dN dF rfl (ZV Zbf) VO (ao (pz 3 (own:=[("person",4)]) rfl nd (ZV ZkZ) (show cB O0 (aA zU) _ _ from Yi) Zcr (λ_ _ _ _ _=>iX (Z5 (az yq hr rfl (ZL (aa Yh Y7))) Z2)) Zl4)
   (ak (Ab hu (pv 1) (pv 2) (dW (own:=[("person",4)]) rfl nd (cf K (pv 3)) (show cB O0 (aA zU) _ _ from cP (by decide+kernel)) (λ_ _ _ _ _=>(aZ 4 nd)) (λ_ _ _ _ _=>iX (ck K (az yu hr rfl (aa (pv 0) (aa (pv 4) (aa (pv 2) ai)))) (λ_=>rfl))) (λ_ _ _ _ _=>(pv 4))) rfl))))
   (ak (ay (pv 1))))),?_⟩
  ext a;intro d hd;have s1:ZQ (Zw d ZaR):=a0 hd;refine⟨r,i,j,P,ab,c,rfl,XB,wf,λH1 l s2 cY hl=>?_⟩;obtain⟨Pv,aB⟩:∃Pv:Nat->L2.St->Hp->Prop,∀m σ H',YK H'↔∃(v2 v3 v4:ZM),σ=[some Yr,some Wc,v2,v3,v4]/\Zd/\H' l=some (.lst (nats Z8))/\fO H' d Zmr:=Yg;refine⟨l,rfl,ZcP,gH (nats Z8) Pv ((Zi _).mpr ⟨none,none,none,rfl,YN,hl,[],s2.at au,.nil⟩) (λi σ H' _ hv=>let⟨_,_,_,_,_,h,_⟩:=(Zi _).mp hv;ag.of h) ?_ ?_⟩
  ·ext N;obtain⟨v2,v3,v4,rfl,s3,bH,kvs,hd2,eU⟩:=(Zi _).mp hv;ext L;have xG:=xp.mp (bI aT);have j7:=hR.same s3;ext a;refine⟨r,i,j,P,ab,c,rfl,j7,wf,λH3 l3 s4 xU b0=>?_⟩;have cC:(kU P ab).length <=P.persons.length:=Zbe;refine⟨l3,rfl,⟨_,ag.of b0⟩,e8 (zs:=kU P ab) (ag.of b0) XF Zb (λx=>V7 st x) nat (λn v z H' hv hz s5 R S bc hS=>?_) (λD4 H4 uN s5 h4=>?_)⟩
   ·ext o
    have rC:z<P.persons.length:=dS.mp (bD.mp Xv).1;ext a;refine⟨r,i,j,P,ab,c,z,st,rfl,(j7.same s4).same s5,wf,rC,xG.1,λH6 s6=>?_⟩;refine Yy;cases e:V7 st z with
    |true=>exact aI (bc e _ s6)
    |false=>exact aF (hS e _ s6)
   ·ext a;have Fw:H4 D4=some (.lst (nats ((kU P ab).filter λx=>V7 st x))):=h4;have au2:=eZ (λx=>V7 st x) (kU P ab);refine⟨⟨_,ag.of Fw⟩,e8 (zs:=(kU P ab).filter λx=>V7 st x) (ag.of Fw) XF Zb (λx=>Zb8 x) nat (λn v z H' hv hz s6 R S bc hS=>?_) (λD5 H5 hD5 s6 h5=>?_)⟩
    ·ext o
     have rC:z<P.persons.length:=dS.mp (bD.mp (bD.mp Xv).1).1;ext a;refine⟨r,i,j,P,ab,c,z,st,rfl,((j7.same s4).same s5).same s6,wf,wc,rC,λH6 s7=>?_⟩;refine Yy;cases e:Zb8 z with
     |true=>exact aI (bc e _ s7)
     |false=>exact aF (hS e _ s7)
    ·have DP:=(s4.trans s5).trans s6;have Mc:=DP.at hd2;have h5':H5 D5=some (.lst (nats (ZJ st))):=by rw[h5,asb];rfl
     have e1:(UX c)[m]? =some (st,ZJ st):=by unfold c_;rw[cx,aT];rfl
     have A6:st∉keys Zmr:=by
      have:keys Zmr=(Z9 c).take m:=by rw[←xy P ab c];unfold keys;rw[za]
      rw[this];exact zx Vt aT
     have Fe:=xf eU;have kH:((UX c).take m).length <=7:=by have h1:=Es P c;have h2:(UX c).length =(Z9 c).length :=X0;rw[eY];omega
     refine⟨_,qv.k (k:=Zbq) Mc Zb,(Zi _).mpr ⟨_,_,_,rfl,bV (s3.trans DP) hd (Eh Mc),?_,_,au,?_⟩⟩
     ·rw[ax (ie bH hd2 (by intro z;cases z))];exact DP.at bH
     ·rw[dA e1];refine Kp (gA (λkv p q=>?_) eU) A6 ?_
      ·obtain⟨q1,r',q2,q3⟩:=q;refine⟨q1,r',q2,?_⟩;rw[ax (ie q3 hd2 (by intro z;cases z))];exact DP.at q3
      ·rw[ax (ie h5' Mc (by intro z;cases z))];exact h5'
  ·intro σ H' hv;obtain⟨v2,v3,v4,rfl,s3,bH,hO⟩:=(Zi _).mp hv;ext a;refine k H' d s3 hd ?_;have:(UX c).take (nats Z8).length =UX c:=by rw[bA];exact vn (by unfold c_;rw[aq];exact ZC)
   rw[this]at hO;exact hO
theorem aj1{f:Addr}{fd:FuncData}(T:Zm)(F:Zo "given" "given" JE f fd):Z4 B3 ID:=by
 have nd:=SJ.nd;refine F.ok SJ Zk Zn
 ·obtain⟨d,o,s,x,rfl,_⟩:=h;rfl
 ·obtain⟨d,o,st,x,rfl,⟨kvs,hd,eU⟩,hm,hlen,k⟩:=h;ext j;have hl:=xf eU;refine⟨_,(ao (Xj (w9 ars Vq T.aa4 arQ (ZL ai)))
   (ao (Ab hu ZH ZE (bh Y7) rfl)
   (ak (ay (pv 3))))),?_⟩
  ext a;refine⟨kvs,hd,λn hn=>ZjQ⟩;have ux:n≠q:=cg au hq;have xM:H q=none:=(a0 hn).free hq;have fH:upd (Zw n Yt) q (.lst [nat x]) n=some Yt:=by rw[ax ux,au]
  refine⟨_,qv.k (k:=Zbq) fH Zb,?_⟩;refine k _ n (bV (bV (a0 hn) xM) hn) hn ⟨_,au,?_⟩;refine aiK (l:=[x]) (gA (λkv p q'=>?_) eU) hm ?_
  ·obtain⟨q1,r,q2,q3⟩:=q';refine⟨q1,r,q2,?_⟩;rw[ax (cg q3 hn),ax (cg q3 xM),ax (cg q3 hn)];exact q3
  ·rw[ax (λe=>ux e.symm),au];rfl
theorem ajG{f:Addr}{fd:FuncData}(T:Zm)(F:Zo "only_steps" "only_steps" Jr f fd):Z4 GA Q4:=by
 have nd:=Sl.nd;refine F.ok Sl Zk Zn
 ·obtain⟨d,l,o,ss,rfl,_⟩:=h;rfl
 ·obtain⟨d,l,o,ss,rfl,⟨kvs,hd,eU⟩,gn,hl,AR,jt,hlen,k⟩:=h;ext j;refine⟨_,(ao (WM DZ)
   (ao (dN dF rfl (ZV ZE) VI (ak (Ab hu ZR ZH ZlL rfl)))
   (ak (ay (pv 2))))),?_⟩
  ext a;intro n hn;have s1:ZQ ZcJ:=a0 hn;obtain⟨Pv,aB⟩:∃Pv:Nat->L2.St->Hp->Prop,∀m σ H',YK H'↔∃(v3:ZM),σ=[some Wc,some Z6,some (.ref n),v3]/\Zd/\fO H' n ZlO:=Yg;refine⟨ZtR,Zft Pv ((Zi _).mpr ⟨none,rfl,s1,[],au,.nil⟩) (λi σ H' _ hv=>let⟨_,_,s2,_⟩:=(Zi _).mp hv;ag.of (s2.at hl)) ?_ ?_⟩
  ·ext N;obtain⟨v3,rfl,s2,AE,fH,dP⟩:=(Zi _).mp hv;ext L;obtain⟨r,e1,e2⟩:=qV eU gn (D_ (jt st (bI aT)));have bH:=xf dP;have kH:((ko o ss).take m).length <=7:=by have h2:(ko o ss).length =ss.length:=X0;rw[eY];omega
   have A6:st∉keys ZlO:=by
    have:keys ZlO=ss.take m:=by unfold keys ko;rw[za,bz];exact cb _ Zgt
    rw[this];exact zx AR aT
   have e3:(ko o ss)[m]? =some (st,fE o st):=by unfold ko;rw[cx,aT];rfl
   ext a;have dg:bZ H2 d ZdB (some Yr):=by have:=bZ.k (k:=Zbq) Zgc;rw[e1]at this;exact this
   refine⟨_,dg,_,qv.k (k:=Zbq) fH Zb,(Zi _).mpr ⟨_,rfl,bV s2 hn,_,au,?_⟩⟩;rw[dA e3];have oo:∀b o',b≠n->NT o'->H2 b=some o'->YD n (.dK (putK AE Zbq Yr)) b=some o':=λb o' hb _ e=>by rw[ax hb];exact e
   refine Kp (gA (λkv p q=>Kr fH Zn0 oo q) dP) A6 ?_;exact oo r _ (ie (s2.at e2) fH (by intro z;cases z)) trivial (s2.at e2)
  ·intro σ H' hv;obtain⟨v3,rfl,s2,hO⟩:=(Zi _).mp hv;ext a;refine k H' n s2 hn ?_;have:(ko o ss).take (nats ss).length =ko o ss:=by rw[bA];exact vn (by unfold ko;rw[aq];exact ZC)
   rw[this]at hO;exact hO
theorem ai3{f:Addr}{fd:FuncData}(T:Zm)(F:Zo "without_persons" "without_persons" Df f fd):Z4 Gg QI:=by
 have nd:=RJ.nd;refine F.ok RJ Zk Zn
 ·obtain⟨d,l,o,xs,rfl,_⟩:=h;rfl
 ·obtain⟨d,l,o,xs,rfl,⟨kvs,hd,eU⟩,gn,pQ,cC,hl,k⟩:=h;ext j;refine⟨_,(ao (WM DZ)
   (ao (T9 (dN dF rfl (Kh Yu) VI (ak (Ab hu ZR ZH (dW (own:=[("person",4)]) rfl nd (ZV ZlL) (show cB aeX (aA Df) _ _ from Yi) Zcr (λ_ _ _ _ _=>iX (Zgj Yh ZE rfl)) Zl4) rfl))))
   (ak (ay (pv 2))))),?_⟩
  ext a;ext bN;obtain⟨Hf,pY⟩:∃Hf,Hf=upd ZcJ d Zc1:=Zs;rw[←pY];have sL:SameBut d ZcJ Hf:=by rw[pY];exact IS (s1.at hd)
  have sf:∀b o',b≠d->NT o'->H b=some o'->Hf b=some o':=λb o' hb t e=>Zqz;have ml:Hf d=some Zc1:=by rw[pY];exact au
  have fn:Hf n=some ZaR:=by rw[pY,ax Zh3];exact au
  have LR:l≠d:=Zr7;obtain⟨Pv,aB⟩:∃Pv:Nat->L2.St->Hp->Prop,∀m σ H',YK H'↔∃(v3 v4:ZM),σ=[some Wc,some Z6,some (.ref n),v3,v4]/\WV Hf H'/\fO H' n ZlN:=Yg;refine⟨_,rfl,d,od,rfl,.inl ⟨kvs,ml,adk kvs Pv ((Zi _).mpr ⟨none,none,rfl,BP n Hf,[],fn,.nil⟩) (λi σ H' _ hv=>let⟨_,_,_,s2,_⟩:=(Zi _).mp hv;s2.at gU ml) ?_ ?_⟩⟩
  ·intro m z σ H2 hz hv;obtain⟨v3,v4,rfl,s2,AE,fH,dP⟩:=(Zi _).mp hv;obtain⟨p,hp,q1,r,q2,q3⟩:=gN eU hz;have jw:p∈o:=bI hp;obtain⟨r',e1,e2⟩:=qV eU gn (show(p.1,p.2)∈o from jw);have iE:r'≠d:=ie e2 hd (by intro z;cases z);have Lx:r'≠n:=cg e2 hn;have gR:H2 r'=some (.lst (nats p.2)):=s2.at Lx (sf _ _ iE trivial e2);have bH:H2 l=some Zh0:=s2.at (cg hl hn) (sf _ _ LR trivial hl);have dg:bZ H2 d (kV z.1) Zh2:=.inl ⟨kvs,Zme,.inr ⟨od,Zfw⟩,by rw[q1],e1.symm⟩;have jx:=cC p jw;ext a;refine⟨_,dg,r',rfl,⟨_,ag.of gR⟩,e8 (zs:=p.2) (ag.of gR) XF Zb (λx=>!(xs.contains x)) nat (λi v x H' ig hx s3 R S bc hS=>?_) (λD3 H3 yh s3 h3=>?_)⟩
   ·ext cw
    ext a;refine TU ZjA Yy;cases e:(!(xs.contains x))with
    |true=>exact Zil
    |false=>exact Zik
   ·have au1:=xf dP;have kH:((jO o xs).take m).length <=7:=by have h2:(jO o xs).length =o.length:=X0;rw[eY];omega
    have LW:keys (jO o xs)=keys o:=by unfold keys jO;rw[bz];rfl
    have A6:p.1∉keys ZlN:=by
     have:keys ZlN=(keys o).take m:=by rw[←LW];unfold keys;rw[za]
     rw[this];exact zx gn (by unfold keys;rw[cx,hp];rfl)
    have e3:(jO o xs)[m]? =some Zp4:=by unfold jO;rw[cx,hp];rfl
    have kF:=s3.at fH;rw[q1];refine⟨_,qv.k (k:=Zme) kF Zb,(Zi _).mpr ⟨_,_,rfl,(s2.same s3).put kF,_,au,?_⟩⟩;rw[dA e3];have oo:∀b o',b≠n->NT o'->H3 b=some o'->U6 n (.dK (putK AE Zme (.ref D3))) b=some o':=λb o' hb _ e=>by rw[ax hb];exact e
    refine Kp (gA (λkv p' q=>Kr kF Zn0 oo (q.same s3)) dP) A6 ?_;exact oo D3 _ (ie h3 kF (by intro z;cases z)) trivial h3
  ·ext bV;ext a;have kC:ZQ (Wz d Yt):=by
    have L5:=Zfw;refine Zos L5
    ·exact s2.keep _ _ ZbY t (sf _ _ hb t e)
    ·ext bW
    ·exact ZqK
   refine k _ n kC hn ?_;have:(jO o xs).take kvs.length=jO o xs:=vn (by unfold jO;rw[aq,xf eU];exact ZC);rw[this]at hO;obtain⟨AE,fH,dP⟩:=hO;refine⟨AE,by rw[ax Zh3];exact fH,gA (λkv p q=>?_) dP⟩;exact Kr Zfw Zn0 (λb o' hb _ e=>by rw[ax hb];exact e) q
end
end
section
open Vbwbal (signer load goesWith fits unsigned)
theorem atD{t u:TS}{D:Ends}{σ:L2.St}{H:Hp}(mid:L2.St->Hp->Prop)(h:∀N:L2.St->Hp->Prop,(∀σ' H',mid σ' H'->N σ' H')->t {D with nx:=N} σ H)(h2:∀σ' H',mid σ' H'->u D σ' H'):o9 t u D σ H:=h (u D) h2
end
section
open Vbwbal (signer load goesWith fits unsigned)
abbrev ae1:Zc:=["some","others","member"]
theorem R1:aV ae1 yS (aA Dj):=Zl
abbrev atg:Zc:=["plan","steps","lists","step","tied","together","apart","each"]
theorem Ta:aV atg GZ (aA JP):=Zl
abbrev asx:Zc:=["plan","steps","others","step"]
theorem RP:aV asx BR (aA IZ):=Zl
abbrev atj:Zc:=["self","steps","persons"]
theorem Te:aV atj yZ (aA DK):=Zl
theorem JU{α:Type}{F:Addr->α->Prop}:∀{rs:Zz} {rows:ZN},ZcT rs rows->∃zs:List ZaG,rs=zs.map Zh/\rows=zs.map ZZ/\∀z∈zs,F z.1 z.2
 |_,_,.nil =>⟨[],rfl,rfl,λz h=>Vf⟩
 |_,_,.cons h t=>by
  rename_i a b l m;obtain⟨zs,e1,e2,e3⟩:=JU t;refine⟨(a,b)::zs,by rw[e1];rfl,by rw[e2];rfl,λz hz=>?_⟩;rcases aJ.mp hz with e|e
  ·rw[e];exact h
  ·exact e3 z e
theorem zip_rows{α:Type}{F:Addr->α->Prop}:∀(zs:List ZaG),(∀z∈zs,F z.1 z.2)->ZcT (zs.map Zh) (zs.map ZZ)
 |[],_=>.nil
 |z::r,h=>.cons (h z aY) (zip_rows r λy hy=>h y ZdI)
theorem aoz{l m:Yv}(h:l.Sublist m):l.flatten.length<=m.flatten.length:=by
 induction h with
 |slnil=>exact ZC
 |cons a _ ih=>
  rw[nB,bS];omega
 |cons_cons a _ ih=>
  rw[nB,nB,bS,bS];omega
def refs{α:Type}(zs:List ZaG):Ze:=zs.map λz=>V.ref z.1
theorem fT{α:Type}(zs:List ZaG):(refs zs).length =zs.length:=X0
theorem qO{α:Type}(a b:List ZaG):refs (a++b)=refs a++refs b:=cA
theorem qN{α:Type}{zs:List ZaG}{i:Nat}{v:V}(h:(refs zs)[i]? =some v):∃z,zs[i]? =some z/\v=.ref z.1:=get_map h
theorem fN.zip{H:Hp}{a:Addr}{rows:Yv}(h:Zba rows):∃zs:List (Addr×List Nat),H a=some Wn/\rows=zs.map ZZ/\∀z∈zs,H z.1=some Zl8:=by obtain⟨rs,h1,h2⟩:=h;obtain⟨zs,e1,e2,e3⟩:=JU h2;refine⟨zs,?_,e2,e3⟩;rw[h1,e1,bz];rfl
theorem fN.aaL{H:Hp}{a:Addr}{zs:List (Addr×List Nat)}(h:H a=some Wn)(hz:∀z∈zs,H z.1=some Zl8):Zba (zs.map ZZ):=
 ⟨zs.map Zh,by rw[h,bz];rfl,zip_rows zs hz⟩
def CY:Sp:=λvs H Q _=>∃(a b:Addr) (xs ys:Za),vs=[.ref a,.ref b]/\H a=some Zh0/\H b=some (.lst (nats ys))/\xs.length<=1000/\
 ∀(H':Hp),Zd->Q (.bl (cI xs ys)) H'
def Iq(A:Ad):Sp:=λvs H Q _=>∃(p a:Addr) (i:aW) (P:Plan) (ss:Za),vs=[.ref p,.ref a]/\Y4/\ZG/\H a=some Zan/\ss.length<=7/\
 ∀(H':Hp) (l:Addr),Zd->H l=none->H' l=some (.lst (nats Zgk))->Z0 H'
def Rt(A:Ad):Sp:=λvs H Q _=>∃(p a:Addr) (i:aW) (P:Plan) (ss:Za),vs=[.ref p,.ref a]/\Y4/\ZG/\H a=some Zan/\ss.length<=7/\
 ∀(H':Hp) (l:Addr),Zd->H l=none->fN H' l (kN P ss)->Z0 H'
def mS(a b:V):Y6:=[("steps",a),("persons",b)]
theorem tN(a b:V):(mS a b).lookup ("steps":Str)=some a:=rfl
theorem D8(a b:V):(mS a b).lookup ("persons":Str)=some b:=rfl
def C2(A:Ad):Sp:=λvs H Q _=>∃(x dx:Addr) (a b:V),vs=[.ref x,a,b]/\H x=some (.ins A.part dx [])/\Q .ba (Zw x (ZcB (mS a b)))
theorem P_(P:Plan)(wf:ZG):∀ss:List Nat,(ia P ss).length <=24*ss.length
 |[]=>ZI
 |s::r=>by have ih:=P_ P wf r;unfold ia at ih⊢;rw[iR,bS,bb];have h1:=w_ P.unlike s;have h2:=wf.unlike;omega
section
variable {P:Program}{w:World}{K:PySem.W.Frag}{mg:Zy}{base:Heap}{A:Ad}
theorem ajk{f:Addr}{fd:FuncData}(T:Zm)(F:Zo "share_any" "share_any" Dj f fd):Z4 yS CY:=by
 have nd:=R1.nd;refine F.ok R1 Zk Zn
 ·obtain⟨a,b,xs,ys,rfl,_⟩:=h;rfl
 ·obtain⟨a,b,xs,ys,rfl,ha,hb,hl,k⟩:=h;refine⟨_,(ak (ay (ZgW (aa (dW (own:=[("member",2)]) rfl nd Zga (show cB ae1 (aA Dj) _ _ from Yi) Zbh Xe (λ_ _ _ _ _=>(eE VZ ZR ZE rfl))) ai)))),?_⟩;ext a;refine⟨UB,e8 (zs:=xs) Xg XF Zb Xa (λz=>.bl (ys.contains z)) Zbd Va⟩
  ·ext o
   ext a;exact nW (s1.at hb) ZcS
  ·refine⟨D,rfl,xs.map λz=>ys.contains z,ZgS,?_⟩;have:=Wy;unfold cI at this;rw[vw];ext d
theorem ajC{f:Addr}{fd:FuncData}(T:Zm)(F:Zav "Part.__init__" DK f fd):Z4 yZ (C2 A):=by
 have nd:=Te.nd;refine F.ok Te Zk Zn
 ·obtain⟨x,dx,a,b,rfl,_⟩:=h;rfl
 ·obtain⟨x,dx,a,b,rfl,hx,k⟩:=h;refine⟨_,(ao ZiC
   (ak (iY K (pv 0) (pv 2) rfl))),?_⟩
  ext aV;simp! [hx,T.oI,n1,n2];exact⟨Zj,(by show(1 :Nat)<1000;decide),k⟩
theorem ai9{f:Addr}{fd:FuncData}(T:Zm)(p9:Zlp)(F:Zo "unlike_steps" "unlike_steps" IZ f fd):X5 BR (Iq A):=by
 have nd:=RP.nd;refine F.ok RP Zk Zn
 ·obtain⟨p,a,i,P,ss,rfl,_⟩:=h;rfl
 ·ext c1;ext j;have nn:=Zaq;refine⟨_,(ao Zdq
   (ao (dN dF rfl (ZV ZE) VI (ak (dU (Uj ZR (aa Zpm ai)))))
   (ak (ay (pv 2))))),?_⟩
  ext a;refine⟨ZI,λl cY=>?_⟩;have s1:ZQ (XZ Ye):=a0 cY;obtain⟨Pv,aB⟩:∃Pv:Nat->L2.St->Hp->Prop,∀m σ H',YK H'↔∃(v3:ZM),σ=[some Z7,some ZY,some Z6,v3]/\Zd/\H' l=some (.lst (nats (ia P Zi9))):=Yg;refine⟨⟨_,ZcL⟩,Zft Pv ((Zi _).mpr ⟨none,rfl,s1,au⟩) (λi σ H' _ hv=>let⟨_,_,s2,_⟩:=(Zi _).mp hv;ag.of (s2.at ha)) ?_ ?_⟩
  ·ext N;obtain⟨v3,rfl,s2,hq⟩:=(Zi _).mp hv;ext L;have gX:=Zf1;have hm:=lh aT;have h1:=P_ P wf Zi9;rw[eY]at h1;simp! [gX.ins,T.bU,nn,nY];refine⟨cQ hq,_,Zep gX.pairs,ix.u,P.unlike,st,rfl,gX.unlike,wf.unlike,λH3 l3 s3 xU b0=>?_⟩;have h2:=w_ P.unlike st;have h3:=wf.unlike;refine⟨l3,rfl,_,s3.at hq,_,b0,by rw[bA,bA];omega,(Zi _).mpr ⟨_,rfl,bV Zfx cY (gf (s3.at hq)),?_⟩⟩;rw[au,dA aT,←lg];unfold ia;rw[oQ];simp
  ·intro σ H' hv;obtain⟨v3,rfl,s2,hq⟩:=(Zi _).mp hv;ext a;rw[bA,eg]at hq;exact k H' l s2 cY hq
theorem akt{f:Addr}{fd:FuncData}(T:Zm)(p9:Zlp)(pZ:Zk8)(F:Zo "alike_steps" "alike_steps" JP f fd):X5 GZ (Rt A):=by
 have nd:=Ta.nd;refine F.ok Ta Zk Zn
 ·obtain⟨p,a,i,P,ss,rfl,_⟩:=h;rfl
 ·ext c1;ext j;have nn:=Zaq;have aK:∀y∈P.alike,y.1≠y.2:=λy hy=>VW ZhZ;refine⟨_,(ao Zdq
   (ao (dN dF rfl (ZV ZE) VI (ao (Zcg Zpm)
   (ao (bq 5 nd (bh X4))
   (ao (bq 6 nd Wa)
   (ao (dN dF rfl (ZV ZR) (aZ 7 nd) (ak (bg (Z5 (az pZ hr rfl (aa (pv 7) ZaD)) Z2) (ak (dU (Uj W3 (aa (pv 7) ai)))) (ak (dU (Wo Za4 (aa (pv 7) ai)))))))
   (ak (bq 2 nd (cR k0 (pv 6) (bh (aa (pv 5) ai))))))))))
   (ak (ay (pv 2))))),?_⟩
  ext a;refine⟨ZI,λl0 cY=>?_⟩;have s1:ZQ ZiO:=a0 cY;obtain⟨Pv,aB⟩:∃Pv:Nat->L2.St->Hp->Prop,∀m σ H',YK H'↔∃(l:Addr) (v3 v4 v5 v6 v7:ZM),σ=[some Z7,some ZY,some Z6,v3,v4,v5,v6,v7]/\Zd/\H l=none/\fN H' l (kN P Zi9):=Yg;refine⟨⟨_,ZcL⟩,Zft Pv ((Zi _).mpr ⟨l0,none,none,none,none,none,rfl,s1,cY,fN.aaL (zs:=[]) au (λz hz=>Vd)⟩) (λi σ H' _ hv=>let⟨_,_,_,_,_,_,_,s2,_⟩:=(Zi _).mp hv;ag.of (s2.at ha)) ?_ ?_⟩
  ·ext N;ext cp;ext L;obtain⟨zs,bH,i9,jq⟩:=rH.zip;have hm:=lh aT;have G:=Fx aK Zi9;have cE:zs.length<=7:=by have h1:=G.len;rw[i9,aq,eY]at h1;omega
   have acM:(zs.map ZZ).flatten.length <=7:=by rw[←i9,G.perm.length_eq,eY];omega
   have gX:=Zf1;simp! [gX.ins,T.bU,nn,nY];refine⟨_,Zer gX.pairs,ix.l,P.alike,st,rfl,gX.alike,wf.alike,λH3 lt s3 au0 bG=>?_⟩;ext a;refine⟨(by rw[hsz];decide),λlo pU=>⟨ZI,λlp m_=>?_⟩⟩;have s4:Wj (U6 lo ZmV):=a0 pU;have acB:H3 lp=none:=s4.free m_;have xO:lp≠lo:=λe=>by rw[e,au]at m_;cases m_
   obtain⟨H5,mf⟩:∃H5,H5=upd (U6 lo ZmV) lp Ye:=Zs;rw[←mf];have s5:Wj H5:=by rw[mf];exact bV s4 acB
   have Fb:H5 lo=some ZmV:=by rw[mf,ax (λe=>xO e.symm)];exact au
   have am0:H5 lp=some Ye:=by rw[mf];exact au
   have s25:=s3.trans s5;obtain⟨gx,ack⟩:∃gx,gx=Xy st:=Zs;rw[←ack]at bG;obtain⟨Pw,cj⟩:∃Pw:Nat->L2.St->Hp->Prop,∀n σ H',Pw n σ H'↔∃(v7:ZM),σ=[some Z7,some ZY,some Z6,some ZdB,some (.ref lt),some (.ref lo),some (.ref lp),v7]/\Wj H'/\
    H' lo=some (.lst (nats (st::(((zs.take n).filter λz=>cI z.2 gx).map ZZ).flatten)))/\H' lp=some (.lst (refs ((zs.take n).filter λz=>!cI z.2 gx))):=Yg
   refine⟨⟨_,ag.of (s25.at bH)⟩,gH Zb5 Pw ((Yl _).mpr ⟨v7,rfl,s5,Fb,am0⟩) (λi σ H' _ hv=>let⟨_,_,s6,_⟩:=(Yl _).mp hv;ag.of (s6.at ZjA)) ?_ ?_⟩
   ·intro n y σ H6 hy hv;obtain⟨v7,rfl,s6,E_,A2⟩:=(Yl _).mp hv;ext bl;have cO:z∈zs:=Xv;have hz6:H6 z.1=some Zl8:=s6.at (s3.at (jq z cO));have auM:z.2.length<=7:=cq (K7 _ _ (aO.mpr ⟨z,cO,rfl⟩)) acM;have hf:(((zs.take n).filter λz=>cI z.2 gx).map ZZ).flatten.length <=7:=by exact cq (aoz (List.Sublist.map _ (List.filter_sublist.trans (List.take_sublist n zs)))) acM
    have L6:((zs.take n).filter λz=>!cI z.2 gx).length <=7:=WN (by rw[eY];omega);ext a;refine⟨z.1,lt,z.2,gx,rfl,hz6,s6.at bG,Zb,λH7 s7=>?_⟩;have E9:=s7.at E_;have E8:=s7.at A2;refine Yy;cases e:cI z.2 gx with
    |true=>
     ext e;simp! [cQ E9];refine⟨_,E9,_,s7.at hz6,?_,(Yl _).mpr ⟨_,rfl,bV ZiU pU (gf E9),?_,?_⟩⟩
     ·rw[bA,bA,bb];omega
     ·rw[au,←lg,dA hz,vv];simp[e]
     ·rw[ax xO,dA hz,vv];simp[e];exact E8
    |false=>
     ext g;simp! [cQ E8];refine⟨_,E8,?_,(Yl _).mpr ⟨_,rfl,bV ZiU acB (gf E8),?_,?_⟩⟩
     ·rw[fT];omega
     ·rw[ax (λe=>xO e.symm),dA hz,vv];simp[e];exact E9
     ·rw[au,dA hz,vv,qO];simp[e];rfl
   ·intro σ H6 hv;obtain⟨v7,rfl,s6,E_,A2⟩:=(Yl _).mp hv;rw[fT,eg]at E_ A2;have L6:(zs.filter λz=>!cI z.2 gx).length <=7:=WN cE;ext a;refine⟨(by rw[hsz];decide),λq hq=>⟨refs Zsa,?_,?_,λq2 m7=>?_⟩⟩
    ·rw[ax (cg A2 hq)];exact A2
    ·rw[fT];omega
    have s7:ah H6 Zr9:=a0 hq;have acs:H6 q2=none:=s7.free m7;have s8:ah H6 (upd Zr9 q2 (.lst (refs Zsa++[.ref lo]))):=bV s7 acs;have Tv:=(s3.trans s6).trans s8;refine(Zi _).mpr ⟨q2,_,_,_,_,_,rfl,s2.trans Tv,s2.free ((s3.trans s6).free acs),?_⟩;have ap6:kN P (ss.take XG)=((zs.filter λz=>!cI z.2 gx)++[(lo,st::((zs.filter λz=>cI z.2 gx).map ZZ).flatten)]).map ZZ:=by rw[dA aT,ar4,i9,cA];unfold si;rw[vt,vt,←ack];rfl
    rw[ap6];refine fN.aaL (by rw[au,qO];rfl) (λz hz=>?_);rcases b8.mp hz with h|h
    ·exact Tv.at (jq z (bD.mp h).1)
    ·rw[bo.mp h];exact s8.at E_
  ·intro σ H' hv;ext cp;ext a;rw[bA,eg]at rH;exact k H' l s2 A3 rH
end
end
section
open Vbwbal (signer load goesWith fits unsigned)
abbrev OZ:Zc:=["plan","options","rooms","steps","able","person","step"]
theorem Sh:aV OZ Gy (aA zT):=Zl
abbrev ae5:Zc:=["plan","parts","taken","person","room","unlike","others","part","persons","each"]
theorem Se:aV ae5 Gw (aA Dn):=Zl
theorem zR{H H1:Hp}{x dx:Addr}{o:HO}(s:ZQ H1)(hx:H1 x=none)(hd:H1 dx=none)(ne:dx≠x):ZQ (upd (Yo dx UK) x o):=
 bV (bV s (s.free hd) (qY hd)) (s.free hx) (qY (by rw[ax (λe=>ne e.symm)];exact hx))
def dk(rm:ZK):Nat->Int:=λx=>rm.getD x 0
theorem EG{n i:Nat}(h:i<n):mY n (i:Int)=some i:=by unfold mY;rw[af Zb,af Zb];simp
theorem JW{rm:ZK}{x:Nat}(h:x<rm.length):(rm.map V.int)[x]? =some (.int (Y1 x)):=by unfold dk;rw[cx,jL,fP h];rfl
theorem aaE{H:Hp}:∀{kvs:Yb} {o:cz},Zam o->(kvs.map λkv=>kV kv.1)=nats XS
 |_,_,.nil =>rfl
 |_,_,.cons h t=>by rw[cw,aaE t,h.1];rfl
def sk(A:Ad)(H:Hp)(p:Addr)(q:Pt):Prop:=∃dx ls lp,H p=some Zrf/\H ls=some Zl6/\H lp=some Zl7
theorem sk.same{A:Ad}{H H':Hp}{p:Addr}{q:Pt}(s:Zd)(h:sk A H p q):sk A H' p q:=by obtain⟨dx,ls,lp,h1,h2,h3⟩:=h;exact⟨dx,ls,lp,UZ,s.at h2,s.at h3⟩
def yQ(A:Ad)(H:Hp)(a:Addr)(ps:Xu):Prop:=∃zs:List (Addr×Pt),H a=some Wn/\ps=zs.map ZZ/\∀z∈zs,sk A H z.1 z.2
theorem yQ.same{A:Ad}{H H':Hp}{p:Addr}{q:Xu}(s:Zd)(h:yQ A H p q):yQ A H' p q:=by obtain⟨zs,h1,h2,h3⟩:=h;exact⟨zs,UZ,h2,λz hz=>(h3 z hz).same s⟩
def qk(A:Ad)(n:Addr)(H:Hp)(p:Addr)(q:Pt):Prop:=∃dx ls lp,H p=some Zrf/\H ls=some Zl6/\H lp=some Zl7/\ls≠n/\lp≠n
theorem qk.part{A:Ad}{n:Addr}{H:Hp}{p:Addr}{q:Pt}(h:qk A n H p q):sk A H p q:=let⟨dx,ls,lp,h1,h2,h3,_⟩:=h;⟨dx,ls,lp,h1,h2,h3⟩
theorem qk.same{A:Ad}{n:Addr}{H H':Hp}{p:Addr}{q:Pt}(s:Zd)(h:qk A n H p q):qk A n H' p q:=by obtain⟨dx,ls,lp,h1,h2,h3,h4⟩:=h;exact⟨dx,ls,lp,UZ,s.at h2,s.at h3,h4⟩
def asp(A:Ad)(H H':Hp)(a p:Addr)(q:Pt):Prop:=∃dx lp,H' p=some (ZcB (mS ZY (.ref lp)))/\H' a=some Zl6/\H' lp=some Zl7/\H lp=none
def Q0(A:Ad):Sp:=λvs H Q _=>∃(p d r a:Addr) (i:aW) (P:Plan) (o:cz) (rm:ZK) (ss:Za),vs=[.ref p,.ref d,.ref r,.ref a]/\Y4/\ZG/\Za1/\(keys o).Nodup /\
 (∀q∈o,q.2.length<=7/\∀y∈q.2,y<rm.length)/\H r=some ZcA/\H a=some Zan/\ss≠[]/\(∀s∈ss,s∈keys o)/\ss.length<=7/\
 ∀(H':Hp) (l:Addr),Zd->H l=none->asp A H H' a l (ZbS ss)->Z0 H'
def QY(A:Ad):Sp:=λvs H Q _=>∃(p a t:Addr) (i:aW) (P:Plan) (ps:Xu) (q:Pt) (x:Nat) (room:Int),vs=[.ref p,.ref a,.ref t,nat x,.int room]/\Y4/\ZG/\yQ A H a ps/\sk A H t q/\ps.length<=7/\
 (∀q∈ps,q.1.length<=7/\q.2.length<=7)/\q.1.length<=7/\
 ∀(H':Hp) (l:Addr),Zd->H l=none->yQ A H' l (ZbE room)->Z0 H'
section
variable {P:Program}{w:World}{K:PySem.W.Frag}{mg:Zy}{base:Heap}{A:Ad}
theorem ajB{f:Addr}{fd:FuncData}(T:Zm)(pZ:Zk8)(yk:ZrI)(uQ:Zr0)
  (F:Zo "part_of" "part_of" zT f fd):VM Gy (Q0 A):=by
 have nd:=Sh.nd;refine F.ok Sh Zk Zn
 ·obtain⟨p,d,r,a,i,P,o,rm,ss,rfl,_⟩:=h;rfl
 ·obtain⟨p,d,r,a,ix,P,o,rm,ss,rfl,hP,wf,hO,gn,xJ,ju,ha,aK,iI,pV,k⟩:=h;ext j;refine⟨_,(ao (bg (Z5 (az pZ hr rfl (aa ZH (aa (az yk hr rfl (ZL X4)) ai))) Z2) (ak (ay (qS uQ hr rfl (aa ZH (aa Wa ai))))) bp)
   (ao (pz 4 (own:=[("person",5)]) rfl nd (ZV (jj hu ZE (Wk ZH aR Z3) Z3)) ZqM ZkU (λ_ _ _ _ _=>iX (bN Ku (Wk ZR W3 Z3) (Xd X4) ZO)) (λ_ _ _ _ _=>W3))
   (ao (dN dF rfl (ZV ZH) (aZ 6 nd) (ak (pz 4 (own:=[("person",5)]) rfl nd (ZV Yh) ZqM ZkU (λ_ _ _ _ _=>iX (bN VZ W3 (jj hu ZE Za4 Z3) rfl)) (λ_ _ _ _ _=>W3))))
   (ak (ay (qS uQ hr rfl (aa (pv 3) (aa (pv 4) ai)))))))),?_⟩
  ext a;refine⟨p,a,ix,P,ss,rfl,hP,wf,ha,pV,λH1 l1 s1 xV cX=>?_⟩;refine⟨a,l1,ss,_,rfl,s1.at ha,cX,Zb,λH2 s2=>?_⟩;have cD:=YN;refine Yy;cases esh:cI ss Zgk with
  |true=>
   ext e;simp! [b7];refine λl3 b0 x dx hx gE ne=>?_;refine ZsI;have s3:Xx (YD l3 Ye):=a0 b0;have s4:=zR (o:=ZcB (mS ZY (.ref l3))) s3 hx gE ne;rw[jP];refine k _ x (cD.trans s4) (cD.free (s3.free hx)) ⟨dx,l3,au,s4.at (cD.at ha),?_,cD.free b0⟩;have e:(ZbS ss).2=[]:=by unfold jk;rw[af esh]
   rw[e];have h1:l3≠x:=λe=>by rw[←e,au]at hx;cases hx
   have h2:l3≠dx:=λe=>by rw[←e,au]at gE;cases gE
   rw[ax h1,ax h2];exact au
  |false=>
   ext g;obtain⟨s0,sr,ess⟩:∃s0 sr,ss=s0::sr:=by
    cases ss with
    |nil=>exact absurd rfl aK
    |cons a b=>exact Zja
   have Fg:∀st∈ss,∀H',Zd->∃r',bZ H' d ZdB Zh2/\H' r'=some (.lst (nats (fE o st)))/\(fE o st).length <=7/\∀y∈fE o st,y<rm.length:=λst aT H' s'=>by obtain⟨kvs,hd,eU⟩:=hO.same s';have hm:=D_ (iI st aT);obtain⟨r',e1,e2⟩:=qV eU gn hm;refine⟨r',?_,e2,xJ _ hm⟩;have:=bZ.k (k:=Zbq) hd;rw[e1]at this;exact this
   have fX:s0∈ss:=by rw[ess];exact aY
   obtain⟨r0,dg0,gm,cY,hy0⟩:=Fg s0 fX H2 cD;have hg0:(nats ss)[0]? =some (nat s0):=by rw[ess];rfl
   obtain⟨va,Mi⟩:∃va,va=(fE o s0).filter λx=>decide ((ss.length:Int)<=Y1 x):=Zs;have L1:(ZbS ss).2=va.filter λx=>ss.all λs=>(fE o s).contains x:=by unfold jk;rw[esh,Mi,ess];rfl
   have jD:=cD.at ha;refine⟨_,ag.of jD,_,bQ hg0,_,dg0,r0,rfl,⟨_,ag.of gm⟩,e8 (zs:=fE o s0) (ag.of gm) XF Zb (λx=>decide ((ss.length:Int)<=Y1 x)) nat (λi v y H' hv hy s3 R S bc hS=>?_) (λl3 H3 hD s3 b0=>?_)⟩
   ·ext cO
    have jr:=hy0 y (bI hy);ext a;refine⟨_,ag.of (s3.at (cD.at ju)),_,bQ (JW jr),_,.inl ⟨_,ag.of (s3.at jD),rfl⟩,?_⟩;simp! [bA];cases e:decide ((ss.length:Int)<=Y1 y)with
    |true=>exact Zil
    |false=>exact Zik
   rw[←Mi]at b0;have b0:H3 l3=some (.lst (nats va)):=b0;obtain⟨Pv,aB⟩:∃Pv:Nat->L2.St->Hp->Prop,∀m σ H',YK H'↔∃(l:Addr) (v5 v6:ZM),σ=[some Z7,some Wc,some Yr,some ZY,some Z6,v5,v6]/\Xx H'/\H l=none/\H' l=some (.lst (nats (va.filter λx=>(ss.take m).all λs=>(fE o s).contains x))):=Yg;refine⟨⟨_,ag.of (s3.at jD)⟩,Zft Pv ((Zi _).mpr ⟨l3,none,none,rfl,s3,cD.free hD,by rw[b0];simp[filter_all]⟩) (λi σ H' _ hv=>let⟨_,_,_,_,s4,_⟩:=(Zi _).mp hv;ag.of (s4.at jD)) ?_ ?_⟩
   ·intro m y σ H4 hy hv;ext cI;ext L;have hle:(va.filter λx=>(ss.take m).all λs=>(fE o s).contains x).length <=7:=WN (by rw[Mi];exact WN cY);ext a;refine⟨⟨_,ag.of ik⟩,e8 (zs:=va.filter λx=>(ss.take m).all λs=>(fE o s).contains x) (ag.of ik) XF Zb (λx=>(fE o st).contains x) nat (λi v y H' hv hy s5 R S bc hS=>?_) (λD H' hD s5 h=>(Zi _).mpr ⟨D,_,_,rfl,ZaA,cD.free (s4.free hD),?_⟩)⟩
    ·ext cO
     obtain⟨r5,dg5,Ly,_,_⟩:=Fg st (bI aT) H' ((cD.trans s4).trans s5);ext a;refine⟨_,dg5,nW Ly Yy⟩;cases e:(fE o st).contains y with
     |true=>exact Zil
     |false=>exact Zik
    ·rw[h,qt];congr 2;unfold nats;congr 1;refine nD λx _=>?_;rw[dA aT,List.all_append,Bool.and_comm];simp
   ·intro σ H4 hv;ext cI;rw[bA,eg,←L1]at ik;ext a;refine λx dx hx gE ne=>ZsI;have s5:=zR (o:=ZcB (mS ZY (.ref l4))) (ah.refl H4) hx gE ne;have jR:=cD.trans s4;rw[jP];exact k _ x (jR.trans s5) (jR.free hx) ⟨dx,l4,au,s5.at (jR.at ha),s5.at ik,ox⟩
theorem ajy{f:Addr}{fd:FuncData}(T:Zm)(pZ:Zk8)(yk:ZrI)(uQ:Zr0)
  (F:Zo "parts_behind" "parts_behind" Dn f fd):VM Gw (QY A):=by
 have nd:=Se.nd;refine F.ok Se Zk Zn
 ·obtain⟨p,a,t,i,P,ps,q,x,room,rfl,_⟩:=h;rfl
 ·obtain⟨p,a,t,ix,P,ps,q,x,room,rfl,hP,wf,⟨zs,ha,i9,jq⟩,⟨tdx,Qe,tlp,AQ,AO,ht3⟩,cC,jx,xJ,k⟩:=h;ext j;ext aV;refine⟨_,(ao (bq 5 nd (az yk hr rfl (ZL (aa (aD K ZR rfl) ai))))
   (ao (bq 6 nd Wa)
   (ao (dN dF rfl (ZV ZE) (aZ 7 nd) (ak (bg (bN (aiQ hr.units) ZhQ (aD K ZR rfl) ZO) (ao (bq 8 nd ZhQ)
   (ao (bg (PW.pt (px (bN qX Yh (Xd (aa ZhQ ai)) ZO) (pq (Z5 (az pZ hr rfl (aa ZhQ (aa W3 ai))) Z2)))) (ak (pz 8 (own:=[("each",9)]) rfl nd (ZV (pv 8)) (show cB ae5 (aA Dn) _ _ from Yi) (λ_ _ _ _ _=>(aZ 9 nd)) (λ_ _ _ _ _=>iX (bN xh (pv 9) ZH ZO)) (λ_ _ _ _ _=>(pv 9)))) bp)
   (ak (dU (dq K dE ir iq gO (pv 6) (aa (qS uQ hr rfl (aa (aD K (pv 7) rfl) (aa (pv 8) ai))) ai)))))) bp)))
   (ak (ay (pv 6)))))),?_⟩
  simp! [AQ,T.oI,n1,tN];refine⟨p,Qe,ix,P,q.1,rfl,hP,wf,AO,xJ,λH1 lu s1 auZ LN=>?_⟩;simp! [b7];intro lo pU;have am2:H lo=none:=s1.free pU;have s2:Yc (Yo lo Ye):=a0 pU;have DR:=YN;have cE:zs.length<=7:=by rw[i9,aq]at cC;exact cC
  obtain⟨Pv,aB⟩:∃Pv:Nat->L2.St->Hp->Prop,∀m σ H',YK H'↔∃(v7 v8 v9:ZM) (ys:List (Addr×Pt)),σ=[some Z7,some ZY,some Zb3,some XW,some (.int room),some (.ref lu),some (.ref lo),v7,v8,v9]/\V3/\H' lo=some Zmw/\
   ys.map ZZ=iN P Zlk q.1 x room/\(∀z∈ys,qk A lo H' z.1 z.2)/\ys.length<=m/\∀z∈ys,z.1≠lo:=Yg
  refine⟨⟨_,ag.of (DR.at ha)⟩,gH Zb5 Pv ((Zi _).mpr ⟨none,none,none,[],rfl,s2,au,rfl,λz hz=>Vd,ZC,λz hz=>Vd⟩) (λi σ H' _ hv=>let⟨_,_,_,_,_,s3,_⟩:=(Zi _).mp hv;ag.of (s3.at (s1.at ha))) ?_ ?_⟩
  ·ext az;ext cm;ext bl;have cO:z∈zs:=Xv;have hm7:=lh hz;have cG:=s1.trans s3;obtain⟨zdx,oW,zk,fF,ma,pL⟩:=(jq z cO).same s1;have ami:oW≠lo:=cg ma pU;have amj:zk≠lo:=cg pL pU;replace fF:=s3.at fF;replace ma:=s3.at ma;replace pL:=s3.at pL;have Ll:=jx z.2 (by rw[i9];exact aO.mpr ⟨z,cO,rfl⟩);have ams:=cG.at AQ;simp! [fF,ams,T.oI,n1,n2,tN,D8];refine⟨oW,Qe,z.2.1,q.1,rfl,rfl,ma,cG.at AO,_,rfl,?_⟩;have adF:iN P ((zs.take XG).map ZZ) q.1 x room=iN P Zlk q.1 x room++iN P [z.2] q.1 x room:=by rw[dA hz,cA];unfold iN;rw[vv,cA];rfl
   cases ene:(z.2.1 != q.1)with
   |false=>
    refine aF ((Zi _).mpr ⟨_,_,_,ys,rfl,s3,pT,?_,i6,Zb,EO⟩);rw[adF,qf];unfold iN;simp[ene]
   |true=>
    ext e;obtain⟨L,hL⟩:∃L,L=(if(decide (room<(z.2.1.length:Int))||cI z.2.1 ZfP)=true then z.2.2.filter Zc3 else z.2.2):=Zs;have eb2:iN P [z.2] q.1 x room=[(z.2.1,L)]:=by unfold iN;rw[jf,af ene,hL];rfl
    have abz:∀(H4:Hp) (Q':VK),Wj H4->(∀D H5,H4 D=none->ah H4 H5->H5 D=some (.lst (nats (z.2.2.filter λy=>y != x)))->Q' Vi H5)->oU (vy K zk) (lD 9) (qF (nM tF (lL 9) (lL 3))) (lL 9) [9]
      [some Z7,some ZY,some Zb3,some XW,some (.int room),some (.ref lu),some (.ref lo),some ZaJ,some (.ref zk),v9] Q' H4:=λH4 Q' s4 hQ'=>by
     refine e8 (zs:=z.2.2) (ag.of (s4.at pL)) XF Zb Zc3 nat (λi v y nE ig hy s5 R S bc hS=>?_) (λD H5 hD s5 h=>hQ' D H5 hD s5 h);obtain⟨y',jX,rfl⟩:=get_map ig;rw[hy]at jX;cases jX
     ext u
     ·simp! [e,qy];exact hS Zdb _ ZW
     ·simp! [e,vE];exact bc Zdb _ ZW
    have fin:∀(H4:Hp) (r4:Addr),Wj H4->H4 r4=some (.lst (nats L))->r4≠lo->∀x_1 dx,H4 x_1=none->H4 dx=none->¬dx=x_1->C2 A [.ref x_1,.ref oW,.ref r4] (upd (U7 dx (.own x_1)) x_1 (.ins A.part dx []))
      (λv H2=>v=V.ba/\∃x_2,H2 lo=some (.lst x_2)/\x_2.length<sizeLine/\Pv XG [some Z7,some ZY,some Zb3,some XW,some (.int room),some (.ref lu),some (.ref lo),some ZaJ,some (.ref r4),v9] (YD lo (.lst (x_2++[.ref x_1])))) E0:=λH4 r4 s4 h4 hr4 x1 dx AJ gE aK=>by
     have s5:=zR (o:=Zkq) (ah.refl H4) AJ gE aK;have acC:=s4.at pT;obtain⟨H5,mf⟩:∃H5,H5=upd (U7 dx (.own x1)) x1 Zkq:=Zs;rw[←mf]at s5;have wJ:=ZaA;have hx5:H5 x1=some Zkq:=by rw[mf];exact au
     have acz:x1≠lo:=λe=>by rw[e,acC]at AJ;cases AJ
     have Fb:=s5.at acC;have abW:∀y qq,y≠lo->qk A lo H5 y qq->qk A lo (upd H5 lo (.lst (refs ys++[.ref x1]))) y qq:=λy qq hy ⟨d1,l1,l2,e1,e2,e3,e4,e5⟩=>
      ⟨d1,l1,l2,by rw[ax hy];exact e1,by rw[ax e4];exact e2,by rw[ax e5];exact e3,e4,e5⟩
     refine⟨x1,dx,_,_,rfl,au,rfl,refs ys,?_,Zin,(Zi _).mpr ⟨_,_,_,ys++[(x1,(z.2.1,L))],rfl,?_,?_,?_,?_,?_,?_⟩⟩
     ·rw[jP,←mf];exact Fb
     ·rw[jP,←mf];exact bV (s3.trans wJ) pU (gf Fb)
     ·rw[au,qO];rfl
     ·rw[cA,qf,adF,eb2];rfl
     ·intro y hy;rw[jP,←mf];rcases b8.mp hy with h|h
      ·exact abW _ _ (EO y h) ((i6 y h).same wJ)
      ·rw[bo.mp h];exact abW _ _ acz ⟨dx,oW,r4,hx5,wJ.at ma,s5.at h4,ami,hr4⟩
     ·rw[bS,O8];omega
     ·intro y hy;rcases b8.mp hy with h|h
      ·exact EO y h
      ·rw[bo.mp h];exact acz
    simp! [fF,T.oI,n1,n2,tN,D8];refine⟨_,.inl ⟨_,ag.of ma,rfl⟩,?_⟩;simp only[bA];cases eroom:decide (room<(z.2.1.length:Int))with
    |true=>
     rw[eroom,Bool.true_or,af rfl]at hL;refine aI ⟨⟨_,ag.of pL⟩,abz H3 _ (ah.refl H3) λD H4 hD s4 h4=>?_⟩;rw[←hL]at h4;have EN:=s4.at fF;simp! [EN,T.oI,n1,tN];exact⟨cQ (s4.at pT),fin H4 D s4 h4 (λe=>by rw[e,pT]at hD;cases hD)⟩
    |false=>
     rw[eroom,Hq]at hL;ext g;refine⟨oW,lu,z.2.1,_,rfl,ma,s3.at LN,Zb,λH4 s4=>Yy⟩;have EN:=s4.at fF;cases esh:cI z.2.1 ZfP with
     |true=>
      rw[esh,af rfl]at hL;refine aI ⟨⟨_,ag.of (s4.at pL)⟩,abz H4 _ s4 λD H5 hD s5 h5=>?_⟩;rw[←hL]at h5;have amk:=s5.at EN;simp! [amk,T.oI,n1,tN];exact⟨cQ ((s4.trans s5).at pT),fin H5 D ZaA h5 (λe=>by rw[e,s4.at pT]at hD;cases hD)⟩
     |false=>
      rw[esh,ae Zf]at hL;ext g;simp! [EN,T.oI,n1,tN];exact⟨cQ (s4.at pT),fin H4 zk s4 (by rw[hL];exact s4.at pL) amj⟩
  ·ext B;ext cm;rw[fT,eg,←i9]at qf;ext a;exact k H3 lo (s1.trans s3) am2 ⟨ys,pT,qf.symm,λz hz=>(i6 z hz).part⟩
end
end
section
open PySem.W (kla_fn kla_obj)
abbrev aff:Zc:=["plan","parts","rooms","part","person","left"]
theorem IP:aV aff vi (aA zX):=Zl
def arU:Stmt->Expr
 | .Assign _ v _=>v
 |_=>ZgT
def kwAt(e:Expr):Expr:=match e with
 | .Call _ _ (k::_) _=>k.value
 |_=>ZgT
def K_(e:Expr):Arguments:=match e with
 | .Lambda a _ _ _=>a
 |_=>{posonlyargs:=[],args:=[],vararg:=none,kwonlyargs:=[],kw_defaults:=[],kwarg:=none,defaults:=[]}
def EA(e:Expr):Expr:=match e with
 | .Lambda _ b _ _=>b
 |_=>ZgT
def Ey(e:Expr):Scope:=match e with
 | .Lambda _ _ s _=>s
 |_=>{kind:=.function,names:=[],isGenerator:=false,isCoroutine:=false}
def Ez(e:Expr):Pos:=match e with
 | .Lambda _ _ _ p=>p
 |_=>⟨0,0,0,0⟩
abbrev KQ:Expr:=arU ((oH zX).getD 1 Zhq)
abbrev jo:Expr:=kwAt KQ
abbrev oh(pm:Value)(c:Addr)(fB:Value):Obj:=kla_obj "<lambda>" rA (K_ jo) (EA jo) (Ey jo) [] pm c fB
section
variable {prog:Program}{w:World}{A:Around}{K:PySem.W.Frag}{s:Shared}{mg mb:Zy}{f c a dx C lp:Addr}{pm fB:Value}{mA:Zy}{its:YS}
theorem alF(KX:Zdi)(hg:s.heap.Ns mainGlobals mg)(hb:s.heap.Ns builtinsNs mb)(hbl:mb "len"=some ZhX)(hgl:mg "len"=none)(lim:s.heap.NoLimit)
  (hf:s.heap.get? f=some (oh pm c fB)) (lz:s.heap.CodeRec Zb2 rA) (Lv:A.depth<recursionLimit)
  (O:so s.heap a dx C mA) (cl:jN K C) (nn:Vz "persons") (hu:mA "persons"=some (.ref lp)) (hl:s.heap.IsList lp its) (hsz:its.size<1000):
  wpAny Y5 A (call Yn [.ref a]) (λv s'=>∃h' tk t',s'={s with heap:=h',toks:=tk}/\v=.int its.size t'/\∀b o,s.heap.get? b=some o->h'.get? b=some o) ZeQ s:=by
 refine CA (PySem.W.kla_callFunE (body:=EA jo) Lv hf rfl rfl rfl rfl lz ?_);have Mh:bindArgs (kla_fn "<lambda>" rA (K_ jo) (EA jo) (Ey jo) [] pm Zb2 fB) ⟨[.ref a],[]⟩=pure [(("each":Str),Value.ref a)]:=rfl;rw[Mh];refine aL (wpAny_newFunctionEnv (show∀x∈(Ey jo).names,x.2≠NameKind.cell by decide+kernel) (λy hy=>?_) (λh1 uw hsb=>⟨lim.fresh _ hsb,?_⟩) rfl)
 ·rw[bo.mp hy];rfl
 have gT:∀b o,s.heap.get? b=some o->h1.get? b=some o:=λb o e=>hsb.extBut b o (eB YL) XU;refine PySem.W.kla_codeExpr ?_;have O1:so h1 a dx C mA:=⟨gT _ _ O.obj,O.ns.at λo q=>gT _ _ q,O.ne⟩;refine sD (afZ rfl rfl (atw (hg.keeps gT) hgl (hb.keeps gT) hbl ?_) Zj);refine asm ?_ rfl rfl;refine Hn (aes rfl (HI (PY rfl rfl uw rfl ?_) Zj));refine L2.get_map (s:={s with heap:=h1,toks:=_}) (KX.keeps gT) O1 (cl.get _) cl.hd nn hu rfl ?_;refine Pr ?_;refine Calls.call_len_list (s:={s with heap:=h1,toks:=_}) (let⟨o,e1,e2⟩:=hl;⟨o,gT _ _ e1,e2⟩) ?_ ?_
 ·have:(its.size:Int)<1000:=by omega
  omega
 ·exact⟨h1,_,_,rfl,rfl,gT⟩
end
def BMain(mg:Zy)(h:Heap):Prop:=∃bm ob,mg "__builtins__"=some (.ref bm)/\bm≠builtinsNs/\h.get? bm=some ob/\ob.cls=.type "module"/\ob.dict=some builtinsNs/\ob.data=.plain
def Ex(f:Addr)(pm:Value)(c:Addr)(fB:Value):HO:=.ext λh=>h.get? f=some (oh pm c fB)
def atr(H:Hp)(f:Addr):Prop:=∃pm c fB,H f=some (Ex f pm c fB)/\H c=some (BF c)
theorem ar2{pos:Pos}{a b:Int}{c cv:Value}{l:Zp}(h:TriplesOk l)(e:codeAmong pos (l++[rawInt a,rawInt b,c])=some cv):codeAmong pos l=some cv∨cv=c:=by
 fun_induction TriplesOk l with
 |case1=>
  simp only[mx,codeAmong,rawInt]at e;split at e
  ·exact .inr (bY e).symm
  ·cases e
 |case2 a' t b' u x rest ih=>
  simp only[oS,codeAmong]at e⊢;split at e
  ·rename_i hc;rw[af hc];exact Zcb
  ·rename_i hc;rw[ae hc];exact ih h e
 |case3 l h1 h2=>exact h.elim
theorem ad3{c:Addr}{q:Str}(h1 h2:Heap)(x:h1.CodeRec Zb2 q)(k:∀o,h1.get? c=some o->h2.get? c=some o):h2.CodeRec Zb2 q:=by
 obtain⟨c2,oc,vs,t,e,ho,hd⟩:=x;cases e
 exact⟨c,oc,vs,t,rfl,k _ ho,hd⟩
theorem aqG{P:Program}{w:World}{H:Hp}{h:Heap}{c:Addr}(x:h.CodeRec Zb2 rA):dJ P w H h c (BF c):=by
 refine⟨x,?_,λh1 h2 y k=>ad3 h1 h2 y k⟩;obtain⟨c2,oc,vs,t,e,ho,hd⟩:=x;cases e
 exact⟨oc,ho⟩
theorem abD{P:Program}{w:World}{H:Hp}{h:Heap}{f:Addr}{pm:Value}{c:Addr}{fB:Value}(x:h.get? f=some (oh pm c fB)):dJ P w H h f (Ex f pm c fB):=
 ⟨x,⟨_,x⟩,λh1 h2 y k=>k _ y⟩
section
variable {X:Cx}{A:Ad}{c:Addr}{pins:Zx}{s:Shared}{σ:L2.St}{H:Hp}{R:Zu}{E:Zu}{A0:Around}
theorem alE(x6:X.env.code=.ref c)(hC:ZrV)(hB:BMain X.mg X.base)(hq:Ztb)(I:Zg)(hT:Wi A.tab)
  (h:∀f H' s',VQ->Zd->atr H' f->R Yn s'):wpAny Yf A0 (eval jo X.env) R E s:=by
 obtain⟨ps,hP,ht,acU⟩:=id hT;have Fs:s.heap.get? A.tab=some (PySem.W.tabObj ps):=I.aC _ _ hP;have hg:=Zlu;obtain⟨bm,ob,b1,b2,b3,b4,b5,b6⟩:=hB;have hgP:mainGlobals≠A.tab:=λq=>by
  obtain⟨o,es,ep,e,hd,_⟩:=hg;rw[q,Fs]at e;cases e
  cases hd
 have hbP:bm≠A.tab:=λq=>by
  have e:=I.bk _ _ b3;rw[q,Fs]at e;cases e
  cases b4
 have hbG:bm≠mainGlobals:=λq=>by
  obtain⟨o,es,ep,e,hd,_⟩:=I.mod.glob;rw[q,e]at b3;cases b3
  rw[hd]at b6;cases b6
 have hbA:s.heap.BuiltinsAt X.mg A.tab:=⟨bm,ob,b1,b2,hbG,hbP,I.bk _ _ b3,b4,b5,b6⟩;refine PySem.W.kla_eval (params:=K_ jo) (body:=EA jo) (scope:=Ey jo) (pos:=Ez jo) rfl ?_;rw[hq];cases hca:codeAmong (Ez jo) ps.toList with
 |some cv=>
  obtain⟨c',rfl,fI⟩:=acU _ _ hca;refine PySem.W.kla_makeFunctionHit (mg:=X.mg) (clos:=[]) rfl I.ok.glob hg x6 (hC.keeps I.bk) Fs ht hca hbA λfB h' tk hk hsz=>?_;have I1:=I.kept (t':=tk) hk;have e1:(h'.push Zd7).get? h'.objs.size=some Zd7:=dj _ rfl;have I2:=Zn4;have j4:H h'.objs.size=none:=Zez;refine h _ _ _ I2 (a0 j4) ⟨_,c',fB,au,?_⟩;rw[ax (cg fI j4)];exact fI
 |none=>
  refine PySem.W.kla_makeFunction (mg:=X.mg) (clos:=[]) rfl I.ok.glob hg x6 (hC.keeps I.bk) Fs ht hca hgP hbA λc' fB h' tk hx uC bG m5 Lp=>?_;have x8:H c'=none:=I.aC.fresh uC;have hcP:A.tab≠c':=cg hP x8;obtain⟨iz,kL⟩:∃iz,iz=ps++ #[rawInt (Ez jo).line,rawInt (Ez jo).col,Value.ref c']:=Zs;rw[←kL]at Lp;obtain⟨H1,fw⟩:∃H1,H1=upd (Zw A.tab Zdz) c' (BF c'):=Zs;have g1:H1 A.tab=some Zdz:=by rw[fw,ax hcP];exact au
  have g2:H1 c'=some (BF c'):=by rw[fw];exact au
  have g3:∀b,b≠A.tab->b≠c'->H1 b=H b:=λb n1 n2=>by rw[fw,ax n2,ax n1]
  have hk:∀b o,b≠A.tab->s.heap.get? b=some o->h'.get? b=some o:=λb o n e=>hx b o n e;have nP:∀b o,H b=some o->(∀q,o≠.b9 q)->b≠A.tab:=λb o e n z=>by rw[z,hP]at e;exact n _ (bY e).symm
  have nC:∀b o,H b=some o->b≠c':=λb o e=>cg e x8;have LF:ZbD H1 h':=λb o e=>by
   by_cases jC:b=A.tab
   ·subst jC;rw[g1]at e;cases e
    exact Lp
   ·by_cases oB:b=c'
    ·subst oB;rw[g2]at e;cases e
     exact aqG m5
    ·rw[g3 b jC oB]at e;refine(I.aC b o e).lP (λd u hd q=>hk d u ?_ q) (λd q=>?_) λd xs q=>?_
     ·rcases hd with rfl|hd
      ·exact jC
      ·exact nP _ _ hd Zcy
     ·rw[g3 d (nP _ _ q Zcy) (nC _ _ q)];exact q
     ·rw[g3 d (nP _ _ q Zcy) (nC _ _ q)];exact q
  have Ky:∀b,H b=none->b≠A.tab:=λb n z=>by rw[z,hP]at n;cases n
  have un1:Un X.fs [] H H1 s.heap h':=by
   refine⟨λb o e n _ _=>hk b o (Ky b n) e,λb o e n _ _=>⟨o.slots,hk b o (Ky b n) e⟩,λb o e n _=>?_,λb o e _=>?_,λb xs e=>?_,λb o u e=>?_,λb q e=>?_⟩
   ·rw[g3 b (Ky b n) (eB (hX YL uC))];exact n
   ·by_cases hb:b=A.tab
    ·subst hb;exact⟨_,Lp⟩
    ·exact⟨o,hk b o hb e⟩
   ·rw[g3 b (nP _ _ e Zcy) ZfM];exact e
   ·rw[g3 b (nP _ _ e Zcy) ZfM];exact e
   ·by_cases hb:b=A.tab
    ·subst hb;rw[hP]at e;cases e
     exact⟨_,by rw[g1,kL]⟩
    ·exact⟨#[],by rw[g3 b hb ZfM,e];simp⟩
  have I1:ZU H1 {s with heap:=h',toks:=tk}:=I.un un1 LF;have tabs:∀Pt,Wi Pt->Tab H1 Pt:=λPt hPt=>by
   obtain⟨qs,q1,q2,q3⟩:=hPt;by_cases hb:Pt=A.tab
   ·subst hb;rw[hP]at q1;cases q1
    refine⟨iz,g1,?_,λpos cv e=>?_⟩
    ·rw[kL];simp only[af3];exact TriplesOk_snoc _ _ _ _ ht
    ·rw[kL]at e;simp only[af3]at e;rcases ar2 ht e with e|e
     ·obtain⟨d,e1,e2⟩:=acU _ _ e;ext ce
     ·exact⟨c',e,g2⟩
   ·refine⟨qs,by rw[g3 Pt hb (nC _ _ q1)];exact q1,q2,λpos cv e=>?_⟩;obtain⟨d,e1,e2⟩:=q3 pos cv e;ext ce
  have s1:ZQ H1:=by
   refine⟨λb o n e=>?_,λb q e=>?_,tabs⟩
   ·rw[g3 b (nP _ _ e (λq z=>by rw[z]at n;exact n)) ZfM];exact e
   ·by_cases hb:b=A.tab
    ·subst hb;exact⟨_,g1⟩
    ·exact⟨q,by rw[g3 b hb ZfM];exact e⟩
  have e1:(h'.push Zd7).get? h'.objs.size=some Zd7:=dj _ rfl;have I2:=Zn4;have j4:H1 h'.objs.size=none:=Zez;refine h _ _ _ I2 (s1.trans (a0 j4)) ⟨_,c',fB,au,?_⟩;rw[ax (cg g2 j4)];exact g2
def Qk(A:Ad)(te:TE):TE:=fun σ H Q=>te σ H λx H1=>∃a zs,x=.ref a/\Tab H1 A.tab/\H1 a=some Wn/\zs≠[]/\(∀z∈zs,sk A H1 z.1 z.2/\z.2.2.length<=7)/\∀z∈zs,∀H',V3->Q ZaJ H'
abbrev KR:Expr:=match KQ with
 | .Call _ (a::_) _ _=>a
 |_=>ZgT
theorem Inv.quiet{h':Heap}{m:Zy}{t':Nat}(I:Zg)(hm:Zk5)(kH:h'.Ns X.env.locals m)(k:∀b o,b≠X.env.locals->s.heap.get? b=some o->h'.get? b=some o):ZU H {s with heap:=h',toks:=t'}:=by
 have nL:∀b u,H b=some u->b≠X.env.locals:=λb u e z=>by rw[z,I.free]at e;cases e
 refine Zrw (λb o hb _ _ e _=>k b o hb e) (λb o hb _ _ e _=>⟨o.slots,k b o hb e⟩) (λ_ _ _ _ n=>n) (λb o _ e=>?_) (λ_ _ e=>e) ZnB Zj7 (λm2 h2=>?_) ZiF I.bare
 ·by_cases hb:b=X.env.locals
  ·subst hb;obtain⟨o',es,ep,e',_⟩:=kH;exact⟨o',e'⟩
  ·exact⟨o,k b o hb e⟩
 ·obtain⟨o1,dI,ep1,e1,d1,sk1,f1⟩:=hm;obtain⟨o2,es2,ep2,e2,d2,sk2,f2⟩:=h2;rw[e1]at e2;cases e2
  rw[d1]at d2;cases d2
  have:m=m2:=funext λx=>(f1 x).symm.trans (f2 x);rw[←this];exact kH
 ·refine(I.aC b u e).lP (λd v hd q=>k d v ?_ q) ZfN λ_ _ q=>q;rcases hd with z|z
  ·rw[z];exact nL b u e
  ·exact nL d _ z
theorem aiu{te:TE}{k:Nat}(T:Txt X.K X.mg A)(hr:eA k X.A)(x6:X.env.code=.ref c)(hC:ZrV)(hB:BMain X.mg X.base)(hq:Ztb)(hg:Gl X "min")(he:Zt KR te)
  (aT:starEach [KR] X.env=(false,eval KR X.env)::starEach [] X.env:=by rfl):Zt KQ (Qk A te):=by
 ext f;refine sD (rq I hg T.KJ aeq ?_ Zj Zj);refine PyProof.Rows.callWith_kw ?_ rfl rfl;refine aN ((aa he ai aT) _ pins s σ H (λvs H1=>match vs with
  |[x]=>∃a zs,x=.ref a/\Tab H1 A.tab/\H1 a=some Wn/\zs≠[]/\(∀z∈zs,sk A H1 z.1 z.2/\z.2.2.length<=7)/\∀z∈zs,∀H',V3->Q ZaJ H'
  |_=>False) I h) λus s1 ⟨vs,H1,I1,r1,q1⟩=>?_
 match vs,r1,q1 with
 |[x],r1,⟨a,zs,ex,hT,ha,aK,hz,hQ⟩=>
 subst ex;obtain⟨u,rfl,ru⟩:=oZ r1;cases ru
 refine wpAny_evalAll_cons (aj (alE x6 hC hB hq I1 hT λf H2 s2 I2 cD hL=>aj (Cv (aL (wpAny_evalAll_nil ?_)))));have jD:=cD.at ha;obtain⟨m,F⟩:=I2.fr;obtain⟨its,rv,pl,hlz⟩:=I2.list (ag.of jD);have hlen:=rv.length;rw[fT]at hlen;have nL:∀b u,H2 b=some u->b≠X.env.locals:=λb u e z=>by rw[z,I2.free]at e;cases e
 have Lb:∀(h:Heap) (own:Zx),Fr X.base X.env.locals h m->News X.base X.env.locals h (BN X.base s2.heap X.env.locals++own)->∀b o,b≠X.env.locals->s2.heap.get? b=some o->h.get? b=some o:=λh own Fh Nh b o hb e=>by
  cases q:X.base.get? b with
  |some u=>
   have:=I2.bk b u q;rw[e]at this;cases this
   exact Fh.keep b _ q
  |none=>exact(Nh (b,o) (my _ (ak6 hb q e))).1
 obtain⟨oa,ea,AY⟩:=pl.isList;show Yx (call Zmu [.ref a] [(Str.ofString "key",Yn)]) YB X.xe s2;refine kmk_min (vs:=its) (news:=BN X.base s2.heap X.env.locals) (λi=>((zs[i]?).map λz=>(z.2.2.length:Int)).getD 0) hr.hd F akL (λh Fh Nh=>⟨oa,Lb h [] Fh (by rw[fc];exact Nh) a oa (nL _ _ jD) ea,AY⟩) ?_ (λi v hv h tk own Fh Nh=>?_) (λi v h' tk' hv _ Fh Nh=>?_)
 ·rw[←hlen];exact sv.mpr aK
 ·obtain⟨z,l_,eV⟩:∃z,zs[i]? =some z/\v=.ref z.1:=by
   have hi:i<zs.length:=by have:=(iQ.mp hv).1;omega
   ext bG
   cases ru
   rfl
  subst eV;have cO:=bI l_;obtain⟨⟨dx,ls,lp,p1,p2,p3⟩,p4⟩:=hz z cO;replace p1:=cD.at p1;replace p3:=cD.at p3;obtain⟨mA,O,rF,_,_,AX⟩:=Lg I2.aC p1;obtain⟨pm,c',fB,hf,fI⟩:=hL;have hk:=Lb h own Fh Nh;obtain⟨itp,rp,plp,m_⟩:=I2.list (ag.of p3);have acD:=rp.length;rw[bA]at acD;obtain⟨oL,eL,uv⟩:=plp.isList;have hkf:((zs[i]?).map λz=>(z.2.2.length:Int)).getD 0=(itp.toArray.size:Int):=by rw[l_,dR,←acD];rfl
  obtain⟨u,hu,ru⟩:=jJ.some_of (v:=V.ref lp) (o:=mA "persons") (by have:=rF "persons";rw[D8]at this;exact this)
  cases ru
  obtain⟨mb,jC,oB⟩:=I2.mod.blt;have uD:s2.heap.get? f=some (oh pm c' fB):=(I2.aC _ _ hf).1;have rR:s2.heap.CodeRec (.ref c') rA:=(I2.aC _ _ fI).1;refine gL (alF (s:={s2 with heap:=h,toks:=tk}) (I2.mod.xx.keeps Fh.keep) (I2.mod.glob.keeps Fh.keep) (jC.keeps Fh.keep) ((oB "len" Zj).trans cU) T.cM (I2.mod.nolimit.keeps Fh.keep)
   (hk _ _ (nL _ _ hf) uD) (ad3 _ _ rR λo e=>hk _ _ (nL _ _ fI) e) (by have:=hr.dp;show X.A.depth<recursionLimit;omega) ⟨hk _ _ (nL _ _ p1) O.obj,O.ns.at λo e=>hk _ _ (nL _ _ AX) e,O.ne⟩ T.oI (T.tT "persons" ZT) hu
   (its:=itp.toArray) ⟨oL,hk _ _ (nL _ _ p3) eL,uv⟩ (by rw[dR];omega)) (λv' s' cF=>?_) λ_ _ hF=>hF
  obtain⟨h2,tk2,t2,rfl,rfl,uA⟩:=cF;rw[←hkf];refine⟨h2,tk2,t2,rfl,rfl,⟨Fh.ns.keeps uA,λb o e=>uA b o (Fh.keep b o e),Fh.above⟩,λp hp=>⟨uA _ _ (Nh p hp).1,(Nh p hp).2⟩⟩
 ·obtain⟨z,l_,eV⟩:∃z,zs[i]? =some z/\v=.ref z.1:=by
   have hi:i<zs.length:=by have:=(iQ.mp hv).1;omega
   ext bG
   cases ru
   rfl
  subst eV;refine⟨ZaJ,H2,Inv.quiet I2 F.ns Fh.ns (Lb h' [] Fh (by rw[fc];exact Nh)),rfl,hQ z (bI l_) H2 cD⟩
end
end
section
open Vbwbal (signer load goesWith fits unsigned)
abbrev afg:Zc:=["plan","options","rooms","parts","steps"]
theorem SW:aV afg GQ (aA DA):=Zl
theorem ahP{rm:ZK}{x n:Nat}(h:x<rm.length):dk (rm.set x (Y1 x-(n:Int)))=lZ Y1 x n:=by
 funext y;unfold dk lZ;ext u
 ·ext x;simp[jL,h]
 ·rw[ae e];simp[jL,Co ZfO]
section
variable {α:Type}{K:PySem.W.Frag}{a:Addr}{xs:Ze}{zs:ZN}{g:TG}{tt:TT}{te:TE}{vs:Za}{σ:L2.St}{H1:Hp}{Q:VK}
theorem alC(hx:Ux)(he:ZhJ)(hlen:ZeE)(G:Addr->Hp->Addr->α->Prop)
  (gs:∀D H H' r z,Zd->G D H r z->G D H' r z) (gp:∀D H r z acc,G D H r z->G D (Zw D (.lst acc)) r z)
  (hy:∀(i:Nat) x z H D acc,xs[i]? =some x->zs[i]? =some z->Yc H->H1 D=none->H D=some (.lst acc)->∀(R:V->Hp->Prop) (S:Zgf),(∀p H',Zd->G D H' p z->R Z7 H')->
   g x (wipe σ vs) H fun σ2 H2=>wipe σ2 vs=wipe σ vs/\tt σ2 H2 λb H3=>if b=true then te σ2 H3 R else S H3)
  (q:∀D H',H1 D=none->V3->(∃ys:List ZaG,H' D=some Zmw/\ys.map ZZ=zs/\∀y∈ys,G D H' y.1 y.2)->ZdH):
  oU ZdD g tt te vs σ Q H1:=by
 intro D hD;refine Zmy (λi H=>Yc H/\∃ys:List ZaG,H D=some Zmw/\ys.map ZZ=zs.take i/\∀y∈ys,G D H y.1 y.2) ⟨a0 hD,[],au,Zf,λr hr=>ZiE⟩ (λi H hi p=>?_) Zq1 ?_ (λH p=>?_)
 ·ext ad;exact⟨xs,x,p.1.seq hx,ex⟩
 ·rintro i x H H' hi ⟨s1,ys,hd,hp,hG⟩ y;ext T;ext cH;refine hy i x z _ D _ js hz s1 hD hd _ _ λp H2 s2 dP=>?_;have hsz:=sz;have jr:ys.length<=i:=by have:=Zaw hp;rw[aq,eY]at this;omega
  refine⟨refs ys,Zgc,Zin,bV YN hD (gf Zgc),ys++[(p,z)],?_,?_,λr hr=>?_⟩
  ·rw[au,qO];rfl
  ·rw[dA hz,cA,hp];rfl
  ·refine gp _ _ _ _ _ ?_;rcases b8.mp hr with h|h
   ·exact gs _ _ _ _ _ s2 (hG r h)
   ·rw[bo.mp h];exact dP
 ·obtain⟨s1,ys,hd,hp,hG⟩:=p;rw[eg]at hp;exact q D H hD s1 ⟨ys,hd,hp,hG⟩
end
def C5(A:Ad)(n:Nat):Sp:=λvs H Q _=>∃(p a r:Addr) (i:aW) (P:Plan) (ps:Xu) (rm:ZK),vs=[.ref p,.ref a,.ref r]/\Y4/\ZG/\Wi A.tab/\yQ A H a ps/\ps.length<=n/\n<=7/\
 y8 P ps Y1/\(∀q∈ps,q.1.length<=7/\q.2.length<=7/\∀y∈q.2,y<rm.length)/\(∀x,0<=Y1 x)/\H r=some ZcA/\rm.length<=7/\
 ∀(H':Hp) (b:Bool),Zd->(b=true↔W6 ZdY Y1)->Q WB H'
def Rl(A:Ad)(n:Nat):Sp:=λvs H Q _=>∃(p d r:Addr) (i:aW) (P:Plan) (o:cz) (rm:ZK),vs=[.ref p,.ref d,.ref r]/\Y4/\ZG/\Wi A.tab/\Za1/\(keys o).Nodup /\o.length<=n/\n<=7/\
 (∀q∈o,q.2.length<=7/\∀y∈q.2,y<rm.length)/\(∀q∈o,∀y∈q.2,0<Y1 y)/\(∀x,0<=Y1 x)/\H r=some ZcA/\rm.length<=7/\
 ∀(H':Hp) (b:Bool),Zd->(b=true↔W6 o Y1)->Q WB H'
section
variable {P:Program}{w:World}{K:PySem.W.Frag}{mg:Zy}{base:Heap}{A:Ad}
theorem aS.okC{x qual:Str}{st:Stmt}{f:Addr}{fd:FuncData}{N ps:Zc}{k:Nat}{sp:Sp}(F:Zij fd)(S:aV N ps ZdW)(len:ZjV)
  (Bc:∀(B:Around) (outer:WX) (s:Shared) (H:Hp) (vs:Ze) (Q:VK) (E:XK),eA k (B.deeper (Zqa fd.code))->Zdl->
   ∃t,jb (r6 aP P w K mg base N qual (aA st) f fd.code B outer s H E).mT (oH st) t/\t {nx:=λ_ H'=>Q .ba H',rt:=Q} (start N vs) H):aM P w K mg base aP (k+1) f fd ps sp:=by
 ext aU;refine adn lk lz S len λB outer s H vs Q E hr oq=>?_;obtain⟨t,h,q⟩:=Bc B outer s H vs Q E hr oq;exact⟨t,h.mT,q⟩
theorem akd{f c:Addr}{fd:FuncData}(T:Zm)(ML:Zv "parts_behind" Gw 3 (QY A))(F:Zo "can_fill_parts" "can_fill_parts" zX f fd)
  (pS:mg "can_fill_parts"=some Yn) (hb:UC vi []) (x6:fd.code=.ref c) (hC:ZeB A.tab) (hB:Zfg):∀n,YV (4+n) f fd vi (C5 A n):=by
 have nd:=IP.nd;ext aV;intro n
 induction n with
 |zero=>
  refine aS.okC (k:=3) F IP Zk Zq7
  ·obtain⟨p,a,r,i,P,ps,rm,rfl,_⟩:=h;rfl
  ·obtain⟨p,a,r,ix,P,ps,rm,rfl,hP,wf,hT,⟨zs,ha,i9,jq⟩,pQ,hn7,ok,jx,gm,ju,fG,k⟩:=h;refine⟨_,ao Zri ah6,?_⟩;have ho:ps=[]:=Cn.mp Zb;subst ho;have hz0:zs=[]:=O7.mp i9.symm;subst hz0;ext a;refine⟨false,ZlD,?_⟩;simp! [vE];exact ZoM
 |succ n ih=>
  have Bm:Zk7 (4+n) (C5 A n):=⟨f,fd,ih,pS,F.kp,hb⟩;refine aS.okC (k:=4+n) F IP Zk Zq7
  ·obtain⟨p,a,r,i,P,ps,rm,rfl,_⟩:=h;rfl
  ·have amX:=λte=>aiu (A:=A) (c:=c) (te:=te) (X:=(r6 aP P w K mg base aff "can_fill_parts" (aA zX) f fd.code B outer s H E).mT) T hr x6 hC hB rfl rfl;obtain⟨p,a,r,ix,P,ps,rm,rfl,hP,wf,hT,hPs,pQ,hn7,ok,jx,gm,ju,fG,k⟩:=h;have hsz:=sz;refine⟨_,(ao Zri
   (ao (Xj (amX _ ZE))
   (ao (dN dF rfl (ZV (aD K ZH rfl)) WT (ao (bq 5 nd (w9 (arn K) Vq T.KL aer Y7))
   (ao (aib W3 Yh (anU K) (Xd (aa (aD K ZH rfl) ai)) al7 set_list)
   (ak (bg (ck K (az Bm hr rfl (aa (pv 0) (aa (az ML hr rfl (aa (pv 0) (aa (pv 1) (aa (pv 3) (aa (pv 4) (aa (bj (bF K) (pv 5) (pv 4) (λ_ _=>rfl)) ai)))))) (aa (pv 5) ai)))) (λ_=>rfl)) (ak (ay ki)) bp)))))
   (ak (ay ki))))),?_⟩
   obtain⟨zs,ha,i9,jq⟩:=id hPs;by_cases LJ:zs=[]
   ·subst LJ;ext a;refine⟨false,ZlD,?_⟩;simp! [vE];rw[vp]at i9;subst i9;exact ZoM
   ·have ng:(refs zs).isEmpty =false:=by
     cases zs with
     |nil=>exact absurd rfl LJ
     |cons a b=>rfl
    ext a;refine⟨true,.inl ⟨_,Xg,by rw[ng];rfl⟩,?_⟩;simp! [qy,Qk];have hzq:∀z∈zs,z.2∈ps:=λz hz=>by rw[i9];exact Zbj
    refine⟨hT,zs,ha,LJ,λz hz=>⟨jq z hz,(jx _ (hzq z hz)).2.1⟩,λz hz H0 s0=>?_⟩;obtain⟨zdx,oW,zk,z1,z2,z3⟩:=(jq z hz).same s0;obtain⟨q,hq⟩:∃q,q=z.2:=Zs;have AS:q∈ps:=by rw[hq];exact hzq z hz
    rw[←hq]at z2 z3;have xJ:=jx q AS;have sstep:=ah7 ok gm AS;simp! [z1,T.oI,n2,D8];obtain⟨Pv,aB⟩:∃Pv:Nat->L2.St->Hp->Prop,∀m σ H',YK H'↔∃(v4 v5:ZM),σ=[some Z7,some ZY,some Yr,some ZaJ,v4,v5]/\ah H0 H'/\∀x∈q.2.take m,¬W6 (jU (ZbE ZkQ)) (lZ Y1 x q.1.length):=Yg;refine⟨⟨_,ag.of z3⟩,gH (nats q.2) Pv ((Zi _).mpr ⟨none,none,rfl,ah.refl H0,λx hx=>by simp at hx⟩) (λi σ H' _ hv=>let⟨_,_,_,s2,_⟩:=(Zi _).mp hv;ag.of (s2.at z3)) ?_ ?_⟩
    ·ext N;obtain⟨v4,v5,rfl,s2,gD⟩:=(Zi _).mp hv;ext bs;have om:x∈q.2:=bI hx;have kx:=xJ.2.2 x om;have ER:=ok.room q AS x om;have DR:=s0.trans s2;have PN:=s2.at z1;ext a;refine⟨_,.inl (ag.of (DR.at ju)),λl2 bH=>?_⟩;have g1:YD l2 ZcA l2=some ZcA:=au;have Tu:Xx (YD l2 ZcA):=a0 bH;have PM:=Tu.at PN;simp! [PM,T.oI,n1,tN];obtain⟨nV,NA⟩:∃nV,nV=rm.set x ZkQ:=Zs;have amz:nV.length=rm.length:=by rw[NA,afu]
     have FP:dk nV=lZ Y1 x q.1.length:=by rw[NA];exact ahP kx
     have e0:dk nV x=Y1 x-(q.1.length:Int):=by rw[FP];unfold lZ;rw[af rfl]
     have ap8:(rm.map V.int).set x (V.int (Y1 x-((nats q.1).length :Int)))=nV.map V.int:=by rw[NA,List.map_set,bA]
     refine⟨_,ag.of g1,_,JW kx,_,.inl ⟨_,ag.of (Tu.at (s2.at z2)),rfl⟩,_,rfl,x,EG (by rw[aq];exact kx),?_⟩;rw[ap8];have s3:Xx (YD l2 Zll):=a0 bH;have g2:YD l2 Zll l2=some Zll:=au;have wL:=DR.trans s3;refine⟨_,ag.of g2,_,bQ (JW Zb),p,a,z.1,ix,P,ps,q,x,_,rfl,hP.same wL,wf,hPs.same wL,?_,Zb,λq' cF=>⟨(jx q' cF).1,(jx q' cF).2.1⟩,xJ.1,λH4 a4 s4 avf Bd=>?_⟩
     ·rw[hq];exact(jq z hz).same wL
     rw[e0]at Bd;have jR:=wL.trans s4;have hlb:(ZbE ZkQ).length <ps.length:=by unfold iN;rw[aq];exact List.length_filter_lt_length_iff_exists.mpr ⟨q,AS,Zf⟩
     refine⟨p,a4,l2,ix,P,_,nV,rfl,hP.same jR,wf,jR.tab _ hT,Bd,Zb,Zb,?_,λq' cF=>?_,?_,s4.at g2,Zb,λH5 b s5 hb=>?_⟩
     ·rw[FP];exact ok.behind AS x
     ·obtain⟨r',iG,rfl⟩:=aO.mp cF;obtain⟨gS,_⟩:=bD.mp iG;have h7:=jx r' gS;refine⟨h7.1,?_,λy hy=>?_⟩
      ·ext i;split
       ·exact WN h7.2.1
       ·exact h7.2.1
      ·rw[amz];dsimp only at hy;split at hy
       ·exact h7.2.2 y (bD.mp hy).1
       ·exact h7.2.2 y hy
     ·rw[FP];exact alv gm ER
     ·rw[FP]at hb;refine⟨b,rfl,?_⟩;cases b with
      |true=>exact aI (k H5 true (jR.trans s5) ⟨λ_=>sstep.mpr ⟨x,om,hb.mp rfl⟩,λ_=>rfl⟩)
      |false=>
       refine aF ((Zi _).mpr ⟨_,_,rfl,((s2.trans s3).trans s4).trans s5,λy hy=>?_⟩);rw[dA hx]at hy;rcases b8.mp hy with h|h
       ·exact gD y h
       ·rw[bo]at h;subst h;exact λq=>absurd (hb.mpr q) Zf
    ·intro σ H' hv;obtain⟨v4,v5,rfl,s2,gD⟩:=(Zi _).mp hv;ext a;refine k H' false (s0.trans s2) ⟨λh=>Vf,λh=>?_⟩;obtain⟨x,hx,hs⟩:=sstep.mp h;refine absurd hs (gD x ?_);rw[bA,eg];exact hx
theorem ake{f:Addr}{fd:FuncData}(T:Zm)(M8:Zv "alike_steps" GZ 2 (Rt A))(MM:Zv "part_of" Gy 3 (Q0 A))(Bm:Zk7 11 (C5 A 7))
  (F:Zo "can_fill" "can_fill" DA f fd):YV 12 f fd GQ (Rl A 7):=by
 have nd:=SW.nd;refine F.ok SW Zk Zn
 ·obtain⟨p,d,r,i,P,o,rm,rfl,_⟩:=h;rfl
 ·obtain⟨p,d,r,ix,P,o,rm,rfl,hP,wf,hT,hO,gn,pQ,_,cC,E1,gm,ju,fG,k⟩:=h;ext j;have aK:∀y∈P.alike,y.1≠y.2:=λy hy=>VW ZhZ;have G:=Fx aK XS;have rM:(keys o).length <=7:=by unfold keys;rw[aq];exact pQ
  refine⟨_,(ao (pz 3 (own:=[("steps",4)]) rfl nd (ZV (az M8 hr rfl (ZL (aa (w9 (arl rfl) Vq T.KL aer Ws) ai)))) (show cB afg (aA DA) _ _ from Yi) Zcr Xe (λ_ _ _ _ _=>(az MM hr rfl (ZL (Xl (XY ZaD))))))
   (ak (ay (az Bm hr rfl (aa (pv 0) (aa (pv 3) (aa (pv 2) ai))))))),?_⟩
  obtain⟨kvs,hd,eU⟩:=id hO;ext a;refine⟨kvs,hd,λl hl=>?_⟩;rw[aaE eU];have s1:ZQ (XZ (.lst (nats XS))):=a0 hl;refine⟨p,l,ix,P,XS,rfl,ZbR,wf,au,rM,λH2 l2 s2 LU rH=>?_⟩;obtain⟨zs,bH,i9,jq⟩:=rH.zip;have cD:=YN;have cE:zs.length<=7:=by have:=G.len;rw[i9,aq]at this;omega
  have l_:∀z∈zs,z.2∈kN P XS:=λz hz=>by rw[i9];exact Zbj
  have acr:∀L∈kN P XS,L.length<=7:=λL hL=>by have h1:=K7 _ L hL;rw[G.perm.length_eq]at h1;omega
  refine⟨l2,rfl,⟨_,ag.of bH⟩,alC (zs:=zs) (ag.of bH) (fT _) Zb (λD H r z=>qk A D H r (ZbS z.2)/\r≠D) (λD H H' r z s h=>⟨h.1.same s,h.2⟩)
   (λD H r z acc h=>⟨?_,h.2⟩) (λi x z H3 D acc hx hz s3 hD0 hD R S hR=>?_) (λD H3 hD s3 i6=>?_)⟩
  ·obtain⟨⟨dx,ls,lp,e1,e2,e3,e4,e5⟩,aK⟩:=h;exact⟨dx,ls,lp,by rw[ax aK];exact e1,by rw[ax e4];exact e2,by rw[ax e5];exact e3,e4,e5⟩
  ·obtain⟨z',br,rfl⟩:=qN hx;ext O
   have cO:=Xv;have uk:=l_ z cO;have cG:=Zde;ext a;refine⟨p,d,r,z.1,ix,P,o,rm,z.2,rfl,hP.same cG,wf,hO.same cG,gn,cC,cG.at ju,s3.at (jq z cO),G.ne _ uk,λt ht=>G.perm.mem_iff.mp (su.mpr ⟨_,uk,ht⟩),acr _ uk,λH4 l4 s4 ox rJ=>?_⟩;obtain⟨dx,lp,e1,e2,e3,e4⟩:=rJ;refine hR l4 H4 s4 ⟨⟨dx,z.1,lp,e1,e2,e3,cg (jq z cO) hD0,λe=>?_⟩,λe=>?_⟩
   ·rw[e,hD]at e4;cases e4
   ·rw[e,hD]at ox;cases ox
  ·obtain⟨ys,yh,qf,hG3⟩:=i6;have cG:=Zde;have kL:partsOf P o Y1=(ys.map λy=>(y.1,ZbS y.2.2)).map ZZ:=by unfold partsOf;rw[bz,i9,←qf,bz,bz];rfl
   refine⟨p,D,r,ix,P,partsOf P o Y1,rm,rfl,hP.same cG,wf,cG.tab _ hT,⟨ys.map λy=>(y.1,ZbS y.2.2),?_,kL,λz hz=>?_⟩,?_,ZC,aie aK gn _,λq hq=>?_,gm,cG.at ju,fG,λH' b s' hb=>k H' b (cG.trans s') (hb.trans (ahL aK gn _).symm)⟩
   ·rw[yh];unfold refs;rw[bz];rfl
   ·obtain⟨y,hy,rfl⟩:=aO.mp hz;exact(hG3 y hy).1.part
   ·unfold partsOf;rw[aq];exact cq G.len rM
   ·obtain⟨L,hL,rfl⟩:=aO.mp hq;have iI:∀x∈(ZbS L).2,∃st∈L,x∈fE o st:=λx hx=>by have h1:=(Eo ZbN).mp hx;obtain⟨st,aT⟩:=afH _ ZbN;exact⟨st,aT,h1.2.2 st aT⟩
    have acJ:∀st∈L,(st,fE o st)∈o:=λst aT=>D_ (G.perm.mem_iff.mp (su.mpr ⟨L,hL,aT⟩));refine⟨acr L hL,?_,λy hy=>?_⟩
    ·unfold jk;ext i;split
     ·exact ZI
     ·refine WN (WN ?_);refine(cC _ (acJ (L.headD 0) ?_)).1;cases hL0:L with
      |nil=>exact absurd hL0 ZbN
      |cons a b=>exact aY
    ·obtain⟨st,aT,hx⟩:=iI y hy;exact(cC _ (acJ st aT)).2 y hx
end
end
section
open Vbwbal (signer load goesWith fits unsigned complete canEnd completion choose subsets)
abbrev afd:Zc:=["record","options","rooms","person"]
theorem SN:aV afd sm (aA Dy):=Zl
abbrev ata:Zc:=["record"]
theorem SY:aV ata vj (aA JK):=Zl
abbrev as9:Zc:=["record","step","person"]
theorem SX:aV as9 GR (aA JJ):=Zl
abbrev O3:Zc:=["record","options","step","fitting","person"]
theorem SM:aV O3 GK (aA zW):=Zl
abbrev asS:Zc:=["choices","members","longer","choice","member"]
theorem Sn:aV asS GC (aA Jt):=Zl
abbrev as8:Zc:=["members","found","level"]
theorem SU:aV as8 yX (aA JI):=Zl
abbrev as5:Zc:=["record","options","steps"]
theorem SQ:aV as5 GN (aA JF):=Zl
abbrev asT:Zc:=["record","options","persons"]
theorem So:aV asT GD (aA Ju):=Zl
theorem alo{P:Plan}{c:Choice}(wc:Xm){x:Nat}(h:P.persons.length<=x):YA x=0:=by have:=wc.room x;rw[Cp Zb]at this;exact Nat.le_zero.mp this
theorem JX{P:Plan}{c:Choice}(wc:Xm):dk ((List.range P.persons.length).map Xk)=eD P c:=by
 funext x;unfold dk;rw[jL,cx];by_cases h:x<P.persons.length
 ·rw[zc h];rfl
 ·rw[Cp (by rw[eM];omega)];have h1:=alo wc (x:=x) Zb;have h2:YH x=0:=by unfold cy;rw[Cp Zb];rfl
  show(0 :Int)=(cy P x:Int)-(load c x:Int);rw[h1,h2];rfl
structure vk(P:Plan)(c:Choice)(o:cz):Prop where
 nd:(keys o).Nodup
 len:o.length<=7
 rows:∀q∈o,q.2.length<=7
 Kj:∀q∈o,∀y∈q.2,y<P.persons.length/\YA y<YH y
def wx(A:Ad):Sp:=λvs H Q _=>∃(r d:Addr) (i:bC) (j:aW) (P:Plan) (ab:Za) (c:Choice) (o:cz),vs=[.ref r,.ref d]/\YM/\ZG/\Xm/\Za1/\vk P c o/\
 ∀(H':Hp) (b:Bool),Zd->(b=true↔W6 o Xk)->Q WB H'
def zJ(A:Ad):Sp:=λvs H Q _=>∃(r:Addr) (i:bC) (j:aW) (P:Plan) (ab:Za) (c:Choice),vs=[.ref r]/\YM/\ZG/\Xm/\
 ∀(H':Hp),Zd->Q (.bl (UH ab c)) H'
def Rm(A:Ad):Sp:=λvs H Q _=>∃(r:Addr) (i:bC) (j:aW) (P:Plan) (ab:Za) (c:Choice) (s x:Nat),vs=[.ref r,nat s,nat x]/\YM/\ZG/\Xm/\s<P.steps.length/\ZS s=none/\x<P.persons.length/\YT x=true/\
 ∀(H':Hp),Zd->Q (.bl (UH ab Ym)) H'
theorem asa{P:Plan}{ab:Za}{c:Choice}{s y:Nat}(h:y∈ZJ s):y<P.persons.length/\YA y<YH y:=by unfold bR at h;obtain⟨h1,h2⟩:=bD.mp h;rw[aQ]at h2;exact⟨dS.mp h1,((ZdP y).mp h2.2).2.2⟩
theorem D9{P:Plan}(wf:ZG)(ab:Za)(q:VF){l:Za}(c:Choice)(hn:l.Nodup)(hl:l.length<=7):vk P c Zi6:=by
 refine⟨by rw[t_];exact hn,by unfold fq;rw[aq];exact hl,λp hp=>?_,λp hp y hy=>?_⟩
 ·ext bg;exact WN (cq (aby P ab c t) wf.persons)
 ·ext bg;exact asa (bD.mp hy).1
theorem xc(P:Plan)(ab:Za)(l:Za)(c:Choice):Wb Zbp l c=l.map λt=>(t,ZJ t):=by unfold fq;refine gv λt _=>?_;rw[filter_all]
theorem zm{P:Plan}(wf:ZG):∀y,y∈P.unlike∨y∈P.alike->y.1≠y.2:=λy hy=>VW (hy.elim (λh=>ZdE) (λh=>.inr Vs))
theorem zq{P:Plan}{c:Choice}:∀s∈Z9 c,ZS s=none:=λs hs=>(xp.mp hs).2
theorem HV{P:Plan}(wf:ZG)(c:Choice):(Z9 c).length <=7:=cq (Es P c) wf.steps
theorem Tq{P:Plan}{ab:Za}{c:Choice}(wf:ZG)(wc:Xm):W6 XH Xk↔UH ab c=true:=by have:=Zl2 Z8 c Vt zq wc.room;rw[xc,yG]at this;exact this
theorem xg{P:Plan}(wf:ZG)(ab:Za)(c:Choice):vk P c XH:=by have:=D9 wf ab Zbp c Vt (HV wf c);rw[xc]at this;exact this
theorem BJ{b:Bool}{p:Prop}{c:Bool}(h:b=true↔p)(hp:p↔c=true):b=c:=by rw[iS];exact h.trans hp
theorem ahM{P:Plan}{ab:Za}{c:Choice}{s x:Nat}(wf:ZG)(wc:Xm)(hs:s∈Z9 c)(hg:YT x=true):W6 ZiQ Xk↔UH ab Ym=true:=by
 have hx:YA x<YH x:=((ZdP x).mp hg).2.2;have fX:=zq s hs;have hk:keys ZiQ=Z9 c:=by
  rw[←xy P ab c];unfold keys kK;rw[bz];refine gv λp _=>?_;show(if p.1=s then(s,[x])else p).1=p.1;by_cases e:p.1=s
  ·rw[af e,e]
  ·rw[ae e]
 have hm:(s,[x])∈kK XH s x:=aO.mpr ⟨(s,ZJ s),aO.mpr ⟨s,hs,rfl⟩,af rfl⟩;have h0:∀y,0<=Xk y:=λy=>by have:YA y<=YH y:=wc.room y;unfold eD;omega
 rw[To P _ _ (by rw[hk];exact Vt) (zm wf) hm (λy hy=>by rw[bo]at hy;subst hy;unfold eD;omega) h0]
 have eb:behind P ZiQ s x (decide (Xk x-1=0))=UX Ym:=by
  have e1:behind P ZiQ s x (decide (Xk x-1=0))=behind P XH s x (decide (Xk x-1=0)):=by
   unfold behind kK;rw[vt,bz];have e2:((λp:Nat×List Nat=>p.1 != s)∘λp=>if p.1=s then(s,[x])else p)=λp:Nat×List Nat=>p.1 != s:=by
    funext p;show((if p.1=s then(s,[x])else p).1 != s)=(p.1 != s);by_cases e:p.1=s
    ·rw[af e,e]
    ·rw[ae e]
   rw[e2];refine gv λp hp=>?_;have:p.1≠s:=by simpa using(bD.mp hp).2
   show _=(p.1,pI P s x _ p.1 p.2);simp only[Function.comp,ae this]
  have e3:=aek (P:=P) (ab:=ab) (q:=λ_ _=>true) (l:=Z8) fX hx;rw[xc,xc,←agx P c s x fX]at e3;rw[e1];exact e3
 have fI:∀y,load Ym y<=YH y:=λy=>by
  rw[rh];have:YA y<=YH y:=wc.room y;by_cases e:x=y
  ·ext x;omega
  ·rw[ae e];omega
 have h2:=Zl2 (Z9 Ym) Ym (lY P _) zq fI;rw[xc,yG]at h2;ext b
 ·rintro⟨y,hy,h⟩;rw[bo]at hy;subst hy;rw[eb,←JV P c s y]at h;exact h2.mp h
 ·intro h;refine⟨x,bo.mpr rfl,?_⟩;rw[eb,←JV P c s x];exact h2.mpr h
theorem anS{P:Plan}{ab:Za}{c:Choice}{s x:Nat}(wf:ZG)(hx:ZhO)(hl:Zi0){o:cz}(ok:vk P c o):vk P c (kK o s x):=by
 refine⟨?_,by unfold kK;rw[aq];exact ok.len,λp hp=>?_,λp hp y hy=>?_⟩
 ·have:keys (kK o s x)=keys o:=by
   unfold keys kK;rw[bz];refine gv λp _=>?_;show(if p.1=s then(s,[x])else p).1=p.1;by_cases e:p.1=s
   ·rw[af e,e]
   ·rw[ae e]
  rw[this];exact ok.nd
 ·ext as;by_cases e:q.1=s
  ·rw[af e];show 1<=7;decide
  ·rw[ae e];exact ok.rows q hq
 ·ext as;by_cases e:q.1=s
  ·rw[af e]at hy;rw[bo.mp hy];exact⟨hx,hl⟩
  ·rw[ae e]at hy;exact ok.Kj q hq y hy
section
variable {P:Program}{w:World}{K:PySem.W.Frag}{mg:Zy}{base:Heap}{A:Ad}
theorem aj4{f:Addr}{fd:FuncData}(T:Zm)(p7:ZkP)(M1:Zv "can_fill" GQ 12 (Rl A 7))(F:Zo "fillable" "fillable" Dy f fd):YV 13 f fd sm (wx A):=by
 have nd:=SN.nd;refine F.ok SN Zk Zn
 ·obtain⟨r,d,i,j,P,ab,c,o,rfl,_⟩:=h;rfl
 ·obtain⟨r,d,i,j,P,ab,c,o,rfl,hR,wf,wc,hO,ok,k⟩:=h;ext aI;refine⟨_,(ao (pz 2 (own:=[("person",3)]) rfl nd Zpz (show cB afd (aA Dy) _ _ from Yi) ZhL Xe (λ_ _ _ _ _=>(az p7 hr rfl (ZL X4))))
   (ak (ay (az M1 hr rfl (aa (aD K (pv 0) rfl) (aa (pv 1) (aa (pv 2) ai))))))),?_⟩
  ext aL;refine ZqQ;rw[mD];refine Zr2 Xa (λx=>.int (Xk x)) ZrQ Va
  ·ext a;exact⟨r,i,j,P,ab,c,x,rfl,XB,wc,hx,bc rfl _ ZW⟩
  ·ext E;have fK:=XB;simp! [fK.ins,T.dD,n1,lR];have ju:H' D=some (.lst (((List.range P.persons.length).map Xk).map V.int)):=by rw[h,bz];rfl
   refine⟨i.p,d,D,j,P,o,_,rfl,fK.plan,wf,fK.tab,hO.same s1,ok.nd,ok.len,ZC,λq hq=>⟨ok.rows q hq,λy hy=>?_⟩,?_,?_,ju,by rw[aq,eM];exact E7,λH2 b s2 hb=>?_⟩
   ·rw[aq,eM];exact(ok.Kj q hq y hy).1
   ·rw[JX wc];intro q hq y hy;have:=(ok.Kj q hq y hy).2;unfold eD;omega
   ·rw[JX wc];intro x;have:YA x<=YH x:=wc.room x;unfold eD;omega
   ·rw[JX wc]at hb;exact k H2 b YN hb
theorem akg{f:Addr}{fd:FuncData}(T:Zm)(iK:Zco)(j8:Zeo)(F:Zo "can_be_ended" "can_be_ended" JK f fd):ZfF vj (zJ A):=by
 have nd:=SY.nd;refine F.ok SY Zk Zn
 ·ext K
 ·ext aZ;refine⟨_,(ak (ay (az j8 hr rfl (ZL (aa Zcw ai))))),?_⟩;ext Y;refine⟨r,d,i,j,P,ab,c,_,rfl,XB,wf,wc,hO,xg wf ab c,λH2 b s2 hb=>?_⟩;rw[BJ hb (Tq wf wc)];exact k H2 YN
theorem akf{f:Addr}{fd:FuncData}(T:Zm)(iK:Zco)(uP:Zv "given" B3 1 ID)(j8:Zeo)
  (F:Zo "can_be_ended_with" "can_be_ended_with" JJ f fd):ZfF GR (Rm A):=by
 have nd:=SX.nd;refine F.ok SX Zk Zn
 ·obtain⟨r,i,j,P,ab,c,s,x,rfl,_⟩:=h;rfl
 ·obtain⟨r,i,j,P,ab,c,st,x,rfl,hR,wf,wc,aT,fX,hx,hg,k⟩:=h;refine⟨_,(ak (ay (az j8 hr rfl (ZL (aa (az uP hr rfl (aa Zcw (Xl Y7))) ai))))),?_⟩;have hsu:st∈Z9 c:=xp.mpr ⟨aT,fX⟩;ext Y;refine⟨d,_,st,x,rfl,hO,by rw[xy];exact hsu,(xg wf ab c).len,λH2 d2 s2 avd yd=>?_⟩;have cD:=YN;refine⟨r,d2,i,j,P,ab,c,_,rfl,hR.same cD,wf,wc,yd,anS (ab:=ab) wf hx ((nq P c st x).mp hg).2.2 (xg wf ab c),λH3 b s3 hb=>?_⟩;rw[BJ hb (ahM wf wc hsu hg)];exact k H3 Zde
end
end
section
open Vbwbal (signer load goesWith fits unsigned complete canEnd completion choose subsets)
theorem adu{x:Nat}:∀{l:Za},l.Nodup->x∈l->l.filter (λy=>y==x)=[x]
 |a::r,hn,hm=>by
  ext t;rw[jf];by_cases e:a=x
  ·subst e;rw[af Zf];congr 1;refine List.filter_eq_nil_iff.mpr λy hy=>?_;have:¬y=a:=λq=>h1 (q▸hy);simpa using this
  ·rw[ae ZlX];exact adu h2 ((aJ.mp hm).resolve_left λq=>Uz)
theorem akH(P:Plan)(ab:Za)(c:Choice)(s:Nat):(ZJ s).Nodup :=aft.filter _
theorem adq{P:Plan}{ab:Za}{c w:Choice}{t x:Nat}(h:XD t=some x)(hx:x∈ZJ t):(ZJ t).filter (c8 w t)=[x]:=by
 have:c8 w t=λy=>y==x:=by funext y;unfold c8;rw[h]
 rw[this];exact adu (akH P ab c t) hx
theorem ads{P:Plan}{ab:Za}{c w:Choice}{t:Nat}(h:XD t=none):(ZJ t).filter (c8 w t)=ZJ t:=by
 have:c8 w t=λ_=>true:=by funext y;unfold c8;rw[h]
 rw[this];exact filter_all _
theorem ac3{P:Plan}{ab:Za}{c w:Choice}{s x:Nat}{l:Za}(h:XD s=none)(hx:x∈ZJ s):kK (Wb (c8 w) l c) s x=Wb (c8 Zao) l c:=by
 unfold kK fq;rw[bz];refine gv λt _=>?_;show(if t=s then(s,[x])else(t,(ZJ t).filter (c8 w t)))=(t,(ZJ t).filter (c8 Zao t));have hq:=nR (c:=w) (x:=x) (t:=t) h;by_cases e:t=s
 ·subst e;rw[af rfl]at hq⊢;rw[adq hq hx]
 ·rw[ae e]at hq⊢;have:c8 Zao t=c8 w t:=by funext y;unfold c8;rw[hq]
  rw[this]
theorem aaD{P:Plan}{ab:Za}{q:VF}{l:Za}{c:Choice}{s:Nat}(h:s∈l):(s,(ZJ s).filter (q s))∈Wb q l c:=aO.mpr ⟨s,h,rfl⟩
theorem aiM(P:Plan)(ab:Za)(c:Choice):UX c=Wb (c8 []) Z8 c:=by unfold c_ fq;refine gv λt _=>?_;rw[ads (C9 t)]
def Rf(A:Ad):Sp:=λvs H Q _=>∃(r:Addr) (i:bC) (j:aW) (P:Plan) (ab:Za) (c c':Choice),vs=[.ref r]/\YM/\ZG/\Xm/\completion P ab c=some c'/\
 ∀(H':Hp) (l:Addr),Zd->H l=none->(∃w,c'=c++w/\w.map Zh=Z9 c/\H' l=some (.lst (nats (w.map ZZ))))->Z0 H'
section
variable {P:Program}{w:World}{K:PySem.W.Frag}{mg:Zy}{base:Heap}{A:Ad}
theorem aj3{f:Addr}{fd:FuncData}(T:Zm)(iK:Zco)(fA:Zac)(uP:Zv "given" B3 1 ID)
  (j8:Zeo) (F:Zo "first_way" "first_way" zW f fd):ZfF GK (Rf A):=by
 have nd:=SM.nd;refine F.ok SM Zk Zn
 ·obtain⟨r,i,j,P,ab,c,c',rfl,_⟩:=h;rfl
 ·obtain⟨r,i,j,P,ab,c,c',rfl,hR,wf,wc,Mg,k⟩:=h;ext j;refine⟨_,(ao (W2 Zcw)
   (ao (dN dF rfl (ZV Zbf) VO (ao (pz 3 (own:=[("person",4)]) rfl nd (ZV (jj hu ZE ZR Z3)) (show cB O3 (aA zW) _ _ from Yi) Zcr (λ_ _ _ _ _=>iX (Z5 (az j8 hr rfl (ZL (aa (az uP hr rfl (Xl (XY ZaD))) ai))) Z2)) Zl4)
   (ak (bq 1 nd (az uP hr rfl (aa (pv 1) (aa (pv 2) (aa (bj (bF K) (pv 3) aR (λ_ _=>rfl)) ai))))))))
   (ak (ay (aas (dW (own:=[("step",2)]) rfl nd (Kh (pv 1)) (show cB O3 (aA zW) _ _ from cP (by decide+kernel)) (λ_ _ _ _ _=>(aZ 2 nd)) (λ_ _ _ _ _=>fU) (λ_ _ _ _ _=>(bj (bF K) (jj hu (pv 1) (pv 2) (λ_ _=>rfl)) aR (λ_ _=>rfl))))))))),?_⟩
  have uq:=Vt;have AK:=HV wf c;ext aI;obtain⟨U,hU⟩:∃U,U=Z9 c:=Zs;ext a;refine Zo3;refine⟨r,i,j,P,ab,c,rfl,XB,wf,λH2 l s2 cY hl=>?_⟩;rw[aiM]at uL;rw[←hU]at uL hl uq AK;have Mg:YZ U c=some c':=by rw[hU];exact Mg
  have hUs:∀t∈U,ZS t=none:=λt ht=>zq t (by rw[←hU];exact ht);obtain⟨Pv,aB⟩:∃Pv:Nat->L2.St->Hp->Prop,∀m σ H',YK H'↔∃(v2 v3 v4:ZM) (w:Choice) (d:Addr),σ=[some Yr,some Wc,v2,v3,v4]/\Zd/\H' l=some (.lst (nats U))/\fO H' d ZmH/\
    w.map Zh=U.take m/\WW c/\YZ (U.drop m) (c++w)=some c'/\∀p∈w,p.2∈ZJ p.1:=Yg
  refine⟨l,rfl,ZcP,gH (nats U) Pv ((Zi _).mpr ⟨none,none,none,[],d1,rfl,YN,hl,uL.same s2,rfl,trivial,by rw[fc];exact Mg,λp hp=>(by cases hp)⟩) (λi σ H' _ hv=>let⟨_,_,_,_,_,_,_,h,_⟩:=(Zi _).mp hv;ag.of h) ?_ ?_⟩
  ·ext az;obtain⟨v2,v3,v4,w,d,rfl,s3,b0,yc,pM,ET,rR,Ln⟩:=(Zi _).mp hv;ext L;have Lq:st∈U:=bI aT;have pR:=lh aT;have A_:U.drop m=st::U.drop XG:=by rw[afK pR];congr 1;exact(iQ.mp aT).2
   have Fp:w.map Zh++st::U.drop XG=U:=by rw[pM,←A_,List.take_append_drop]
   have uo:XD st=none:=zM.mpr (by rw[pM];exact zx uq aT);have hnU:(w.map Zh++st::U.drop XG).Nodup :=by rw[Fp];exact uq
   have hsU:∀t∈w.map Zh++st::U.drop XG,ZS t=none:=by rw[Fp];exact hUs
   have xG:(YZ (st::U.drop XG) (c++w)).isSome =true:=by rw[←A_,rR];rfl
   have aK:=aoD P ab c w st _ ET hnU hsU xG;rw[Fp]at aK;obtain⟨x0,rest,ER⟩:∃x0 rest,(ZJ st).filter ZjT=x0::rest:=by
    cases e:(ZJ st).filter ZjT with
    |nil=>exact ZdK aK
    |cons a b=>exact Zja
   have rN:=aoC P ab c w st _ ET hnU hsU (x:=x0) (rest:=rest) (by rw[Fp];exact ER);obtain⟨kvs,jB,rL⟩:=yc;have uK:∀w',vk P c (Wb (c8 w') U c):=λw'=>D9 wf ab (c8 w') c uq AK;obtain⟨r',e1,e2⟩:=qV rL (uK w).nd (aaD (q:=c8 w) Lq);rw[ads uo]at e2;have dg:∀H',Wj H'->bZ H' d ZdB Zh2:=λH' s=>by have:=bZ.k (k:=Zbq) (s.at jB);rw[e1]at this;exact this
   have hal:=aby P ab c st;ext a;refine⟨_,dg H3 ZW,r',rfl,⟨_,ag.of e2⟩,e8 (zs:=ZJ st) (ag.of e2) XF Zb ZjT nat (λn v x H' ig hx s4 R S bc hS=>?_) ZtP⟩
   ·ext cw
    have um:x∈ZJ st:=bI hx;have Bi:fO H' d ZmH:=ZsY;ext a;refine⟨d,_,st,x,rfl,Bi,by rw[t_];exact Lq,(uK w).len,λH5 d5 s5 Mb nj=>?_⟩;rw[ac3 uo um]at nj;refine⟨r,d5,i,j,P,ab,c,_,rfl,((hR.same s3).same s4).same s5,wf,wc,nj,uK _,λH6 b s6 hb=>?_⟩;have eb:b=(ZtE c).isSome :=BJ hb (sZ P ab _ (zm wf) U c uq hUs wc.room);refine⟨b,rfl,?_⟩;rw[eb];cases e:(ZtE c).isSome with
    |true=>exact aI (bc e _ (s5.trans s6))
    |false=>exact aF (hS e _ (s5.trans s6))
   ·have Fw:H4 D4=some (.lst (nats (x0::rest))):=by rw[h4,ER];rfl
    ext a;refine⟨_,ag.of Fw,nat x0,bQ (j:=0) rfl,d,_,st,x0,rfl,ZsY,by rw[t_];exact Lq,(uK w).len,λH5 d5 s5 Mb nj=>?_⟩;rw[ac3 uo rN.2.2]at nj;have ji:=ZaA;refine(Zi _).mpr ⟨_,_,_,w++[(st,x0)],d5,rfl,s3.trans ji,ji.at b0,nj,?_,rN.2.1,?_,λp hp=>?_⟩
    ·rw[cA,pM,dA aT];rfl
    ·rw[A_,rN.1,eC]at rR;exact rR
    ·rcases b8.mp hp with h|h
     ·exact Ln p h
     ·rw[bo.mp h];exact rN.2.2
  ·ext B;obtain⟨v2,v3,v4,w,d,rfl,s3,b0,⟨kvs,jB,rL⟩,pM,ET,rR,Ln⟩:=(Zi _).mp hv;rw[bA,eg]at pM;rw[bA,Hg]at rR;have fI:c'=c++w:=(bY rR).symm;have uK:vk P c ZmH:=D9 wf ab (c8 w) c uq AK;have Fe:=xf rL;have pQ:=uK.len;ext a;refine⟨d,_,jB,trivial,λod=>?_⟩;have sf:∀b o',b≠d->H3 b=some o'->U6 d Zc1 b=some o':=λb o' hb e=>by rw[ax hb];exact e
   have yD:U6 d Zc1 d=some Zc1:=au;simp! [acf];refine⟨od,.inl ⟨kvs,rfl,?_⟩⟩;have hwn:(w.map Zh).Nodup :=by rw[pM];exact uq
   refine alB yD Zb Xa (λkv=>Zoy) (λn z H' hz s4 R S bc hS=>?_) ZtP
   ·obtain⟨p,hp,eS⟩:=gN rL hz;obtain⟨t,ht,rfl⟩:=get_map hp;have htU:t∈U:=bI ht;obtain⟨pw,ot,oF⟩:=aO.mp (show t∈w.map Zh by rw[pM];exact htU);have rE:XD t=some pw.2:=wA hwn (by rw[←oF];exact ot);have E2:pw.2∈ZJ t:=by have:=Ln pw ot;rw[oF]at this;exact this
    obtain⟨r',e1,e2⟩:=qV rL uK.nd (aaD (q:=c8 w) htU);rw[adq rE E2]at e2;have iE:r'≠d:=ie e2 jB (by intro z;cases z);have fF:z.1=Sum.inl (t:Int):=eS.1;have ek:kV z.1=nat t:=by rw[fF];rfl
    have dg:bZ H' d (nat t) Zh2:=.inl ⟨kvs,Sum.inl (t:Int),.inr ⟨od,s4.at yD⟩,rfl,e1.symm⟩;have ev:nat ((XD (match z.1 with | .inl n=>n.toNat| .inr _=>0)).getD 0)=nat pw.2:=by rw[fF];show nat ((XD (Int.toNat (t:Int))).getD 0)=_;rw[mD,rE];rfl
    have L1:R (nat pw.2) H':=by have h:=bc rfl H' ZW;rw[ev]at h;exact h
    rw[ek];ext a;refine⟨_,dg,r',rfl,_,ag.of (s4.at (sf _ _ iE e2)),nat pw.2,bQ (j:=0) rfl,L1⟩
   ·refine⟨s4.at yD,?_⟩;have sH:ZQ (U7 d Yt):=s3.trans (aln jB s4);have yh:H3 D4=none:=by
     by_cases e:D4=d
     ·subst e;rw[yD]at uN;cases uN
     ·rw[ax e]at uN;exact uN
    have hDd:D4≠d:=λe=>by rw[e,jB]at yh;cases yh
    refine k _ D4 sH (s3.free yh) ⟨w,fI,by rw[pM,hU],?_⟩;rw[ax hDd,h4,filter_all];congr 2;have e1:∀{kvs:Yb} {o:cz},Paired (jc H3) kvs o->(kvs.map λkv=>Zoy)=nats ((keys o).map λt=>(XD t).getD 0):=by
     intro kvs o hp
     induction hp with
     |nil=>rfl
     |cons h t ih=>
      ext aJ;rw[cw,ih,h.1];show nat ((XD (Int.toNat (p.1:Int))).getD 0)::_=_;rw[mD];rfl
    rw[e1 rL,t_,←pM,bz];congr 1;refine gv λp hp=>?_;show(XD p.1).getD 0=p.2;rw[wA hwn (show(p.1,p.2)∈w from hp)];rfl
end
end
section
open Vbwbal (signer load goesWith fits unsigned complete canEnd completion choose subsets)
theorem arR{ch:Za}(h:ch≠[]):f_ (nats ch) (-1)=some (nat (ch.getLastD 0)):=by
 have e:ch=ch.dropLast++[ch.getLastD 0]:=by
  have h1:=List.dropLast_concat_getLast h;have h2:ch.getLast h=ch.getLastD 0:=by
   cases ch with
   |nil=>exact absurd rfl h
   |cons a r=>simp[List.getLastD]
  rw[h2]at h1;exact h1.symm
 have:=arS (nats ch.dropLast) (nat (ch.getLastD 0));rw[←KC,←e]at this;ext d
theorem fN.snoc{H H':Hp}{a p:Addr}{rows:Yv}{row:Za}{rs:Zz}(hp:ZgE rows)(k:Zpf)(ha:H a=some WQ)(hd:∀r∈rs,r≠a)
  (rT:H' a=some (.lst (rs.map V.ref++[.ref p]))) (E1:H' p=some (.lst (nats row))):∃zZ:List Addr,zZ=rs++[p]/\H' a=some (.lst (zZ.map V.ref))/\Zcj zZ (rows++[row]):=by
 refine⟨rs++[p],rfl,by rw[rT,cA];rfl,?_⟩;have h2:Zcj rs rows:=by
  clear ha rT
  induction hp with
  |nil=>exact .nil
  |cons h t ih=>exact .cons (W7 (hd _ aY) trivial h) (ih λr hr=>hd r (ZD hr))
 exact ql h2 E1
def Oy(H0 H:Hp)(a:Addr)(rows:Yv):Prop:=∃rs:List Addr,H a=some WQ/\ZgE rows/\∀r∈rs,r≠a/\H0 r=none
theorem aiY(iM:Yv)(ch:Za)(ms:Za):k_ (iM++[ch]) ms=k_ iM ms++(ms.filter X8).map (λm=>ch++[m]):=by unfold k_;rw[oQ];simp
theorem aaJ(ms:Za):∀iM:List Za,(k_ iM ms).length <=iM.length*ms.length
 |[]=>ZI
 |ch::r=>by have ih:=aaJ ms r;unfold k_ at ih⊢;rw[iR,bS,aq,bb,Nat.succ_mul];have:=eZ X8 ms;omega
theorem DS{H H':Hp}{a:Addr}(k:Zpf):∀{rs:Zz} {rows:Yv},(∀r∈rs,r≠a)->ZgE rows->Zcj rs rows
 |_,_,_,.nil =>.nil
 |_,_,h,.cons e t=>.cons (W7 (h _ aY) trivial e) (DS k (λr hr=>h r (ZD hr)) t)
theorem aaA{α β:Type}{F:Ur}:∀{l l':ZN} {m m':WA},Zcf->ZcT l' m'->ZcT (l++l') (m++m')
 |_,_,_,_,.nil,h=>h
 |_,_,_,_,.cons e t,h=>.cons e (aaA t h)
theorem al4{α β:Type}{l:ZN}{m:WA}(h:l.length=m.length):l.isEmpty=m.isEmpty:=by cases l<;>cases m<;>simp_all
def Q6:Sp:=λvs H Q _=>∃(a b:Addr) (iM:Yv) (ms:Za),vs=[.ref a,.ref b]/\Zba iM/\H b=some (.lst (nats ms))/\iM.length<=128/\ms.length<=7/\(∀ch∈iM,ch.length<=7)/\
 ∀(H':Hp) (l:Addr),Zd->H l=none->Oy H H' l (k_ iM ms)->Z0 H'
section
variable {P:Program}{w:World}{K:PySem.W.Frag}{mg:Zy}{base:Heap}{A:Ad}
theorem ajI{f:Addr}{fd:FuncData}(T:Zm)(F:Zo "one_longer" "one_longer" Jt f fd):Z4 GC Q6:=by
 have nd:=Sn.nd;refine F.ok Sn Zk Zn
 ·obtain⟨a,b,iM,ms,rfl,_⟩:=h;rfl
 ·obtain⟨a,b,iM,ms,rfl,⟨rs,ha,dv⟩,hb,kJ,pR,gW,k⟩:=h;ext c;refine⟨_,(ao Zdq
   (ao (dN dF rfl (ZV Yu) VI (ak (dN dF rfl (ZV ZE) WT (ak (bg (PW.pt (px (eR (Z5 ZH Z2)) (pq (bN pD Yh (Wk ZH (ais agy aR) Z3) ZO)))) (ak (dU (Wo ZR (aa (cR k0 ZH (bh ZaD)) ai)))) bp)))))
   (ak (ay (pv 2))))),?_⟩
  ext a;refine⟨ZI,λl hl=>?_⟩;have s1:ZQ (XZ Ye):=a0 hl;obtain⟨Pv,aB⟩:∃Pv:Nat->L2.St->Hp->Prop,∀m σ H',YK H'↔∃(v3 v4:ZM),σ=[some ZY,some ZdA,some Z6,v3,v4]/\Zd/\Oy H H' l (k_ (iM.take m) ms):=Yg;refine⟨⟨_,ZcL⟩,gH W9 Pv ((Zi _).mpr ⟨none,none,rfl,s1,[],au,.nil,λr hr=>ZiE⟩) (λi σ H' _ hv=>let⟨_,_,_,s2,_⟩:=(Zi _).mp hv;ag.of (s2.at ha)) ?_ ?_⟩
  ·ext N;obtain⟨v3,v4,rfl,s2,yd⟩:=(Zi _).mp hv;obtain⟨r,hr,rfl⟩:=Wr;obtain⟨ch,ni,eS⟩:=gN dv hr;have ave:=gW ch (bI ni);have auX:=lh ni;obtain⟨Pw,cj⟩:∃Pw:Nat->L2.St->Hp->Prop,∀n σ H',Pw n σ H'↔∃(v4:ZM),σ=[some ZY,some ZdA,some Z6,some Yr,v4]/\Zd/\Oy H H' l (k_ (iM.take m) ms++((ms.take n).filter X8).map (λx=>ch++[x])):=Yg;ext a;refine⟨⟨_,ag.of (s2.at hb)⟩,gH (nats ms) Pw ((Yl _).mpr ⟨v4,rfl,s2,by simpa using yd⟩) (λi σ H' _ hv=>let⟨_,_,s3,_⟩:=(Yl _).mp hv;ag.of (s3.at hb)) ?_ ?_⟩
   ·intro n y σ H3 hy hv;obtain⟨v4,rfl,s3,wM,b0,jZ,jB⟩:=(Yl _).mp hv;ext bs;have jY:=s3.at eS;have au3:wM.length<=1000:=by rw[du jZ,bS,aq];have h1:=aaJ ms (iM.take m);have h2:=eZ X8 (ms.take n);rw[eY]at h1 h2;have h3:min m iM.length*ms.length<=128*7:=aeV Zb pR;omega
    have BA:(ms.take Wh).filter X8=(ms.take n).filter X8++(if above ch x=true then [x]else []):=by
     rw[dA hx,vv];congr 1;by_cases e:X8 x=true
     ·rw[af e,jf,af e];rfl
     ·rw[ae e,jf,ae e];rfl
    have app:X8 x=true->1<=sizeLine/\∀(p:Addr),H3 p=none->∃x_1,Zha r=some (HO.lst x_1)/\x_1.length+1<=sizeLine/\∀(qU:Addr),Zha qU=none->∃x_2,
      upd Zha qU Zs8 l=some (HO.lst x_2)/\x_2.length<sizeLine/\
       Pw Wh [some (V.ref a),some (V.ref b),some (V.ref l),some (V.ref r),some XW] (upd (upd Zha qU Zs8) l (HO.lst (x_2++[V.ref qU]))):=λdc=>by
     refine⟨(by rw[hsz];decide),λq hq=>⟨nats ch,?_,by rw[bA,hsz];omega,λp hp=>⟨wM.map V.ref,?_,by rw[aq,hsz];omega,?_⟩⟩⟩
     ·rw[ax (cg jY hq)];exact jY
     ·have ou:H3 p=none:=(a0 hq).free hp;rw[ax (cg b0 ou),ax (cg b0 hq)];exact b0
     ·have ou:H3 p=none:=(a0 hq).free hp;have s4:Wj ZoF:=bV (a0 hq) ou;have cC:p≠l:=λe=>by rw[e,b0]at ou;cases ou
      obtain⟨zZ,e1,e2,e3⟩:=fN.snoc (H':=upd ZoF l (.lst (wM.map V.ref++[.ref p]))) (row:=ch++[x]) jZ (λb o hb t e=>by rw[ax hb];exact s4.keep _ _ t e) b0 (λr hr=>(jB r hr).1) au
       (by rw[ax cC,au,KC])
      refine(Yl _).mpr ⟨_,rfl,bV ZfC hl (gf (s4.at b0)),zZ,e2,?_,λr' iG=>?_⟩
      ·rw[BA,af dc,cA,←eC];exact e3
      ·rw[e1]at iG;rcases b8.mp iG with h|h
       ·exact jB r' h
       ·rw[bo.mp h];exact⟨cC,s3.free ou⟩
    have skip:X8 x=false->Pw Wh [some (V.ref a),some (V.ref b),some (V.ref l),some (V.ref r),some XW] H3:=λdc=>by refine(Yl _).mpr ⟨_,rfl,s3,wM,b0,?_,jB⟩;rw[BA,ae (by rw[dc];simp),fc];exact jZ
    simp! [cQ b0];cases gG:ch with
    |nil=>
     refine⟨false,ZqE,?_⟩;simp! [vE];exact app (by rw[gG];rfl)
    |cons c0 cr=>
     have aK:ch≠[]:=by rw[gG];simp
     refine⟨true,ZqE,?_⟩;simp! [qy];refine⟨_,ag.of jY,_,arR aK,?_⟩;have dc:X8 x=decide ((ch.getLastD 0 :Int)<(x:Int)):=by
      unfold above;have:ch.isEmpty=false:=by rw[gG];rfl
      rw[this,Hq];congr 1;exact propext Zb
     ext a;rw[←dc];cases e:X8 x with
     |true=>exact aI (app e)
     |false=>exact aF (skip e)
   ·ext B;obtain⟨v4,rfl,s3,yc⟩:=(Yl _).mp hv;refine(Zi _).mpr ⟨_,_,rfl,s3,?_⟩;rw[bA,eg]at yc;rw[dA ni,aiY];exact yc
  ·intro σ H2 hv;obtain⟨v3,v4,rfl,s2,yd⟩:=(Zi _).mp hv;rw[aq,du dv,eg]at yd;ext a;exact k H2 l s2 hl yd
def C4:Sp:=λvs H Q _=>∃(b:Addr) (ms:Za),vs=[.ref b]/\H b=some (.lst (nats ms))/\ms.length<=7/\ms.Pairwise Vg/\
 ∀(H':Hp) (l:Addr),Zd->H l=none->fN H' l (subsets ms)->Z0 H'
theorem akb{f:Addr}{fd:FuncData}(T:Zm)(MP:Zv "one_longer" GC 1 Q6)(F:Zo "choices_of" "choices_of" JI f fd):X5 yX C4:=by
 have nd:=SU.nd;refine F.ok SU Zk Zn
 ·obtain⟨b,ms,rfl,_⟩:=h;rfl
 ·obtain⟨b,ms,rfl,hb,pR,ot,k⟩:=h;ext c;have anQ:2 ^ ms.length<=128:=cq (Ztx pR) Zj;refine⟨_,(ao (W2 Wa)
   (ao (WM (bh (aa Wa ai)))
   (ao (Ke dF ZnL (ao (dU (Uj ZE Y7))
   (ak (bq 2 nd (az MP hr rfl (aa (pv 2) (aa (pv 0) ai)))))))
   (ak (ay (pv 1)))))),?_⟩
  ext a;refine⟨ZI,λfo uD=>⟨ZI,λe0 he0=>⟨(by rw[hsz];decide),λl0 cY=>?_⟩⟩⟩;have acS:H e0=none:=(a0 uD).free he0;have ane:H l0=none:=(bV (a0 uD) acS).free cY;have L4:fo≠e0:=cg au he0;have kI:e0≠l0:=cg au cY;have rP:fo≠l0:=by refine cg (H:=upd (Zw fo Ye) e0 Ye) (o:=.lst []) ?_ cY;rw[ax L4,au]
  obtain⟨Pw,cj⟩:∃Pw:L2.St->Hp->Prop,∀σ H',Pw σ H'↔∃(n:Nat) (lv:Addr),n<=ms.length+1/\σ=[some ZdA,some (.ref fo),some (.ref lv)]/\Zd/\(∃rs,H' fo=some WQ/\Zcj rs (levels ms n)/\∀r∈rs,r≠fo)/\
    (∃rs,H' lv=some WQ/\Zcj rs (VU ms)/\∀r∈rs,r≠fo)/\lv≠fo:=ZmQ
  have lenOf:∀(H':Hp) (lv:Addr) (n:Nat) rs,H' lv=some WQ->Zcj rs (VU ms)->yO K (.ref lv) H' (!(VU ms).isEmpty):=λH' lv n rs h1 h2=>by refine .inl ⟨_,ag.of h1,?_⟩;rw[al4 (l:=W9) (m:=VU ms) (by rw[aq];exact du h2)]
  refine HP Pw (λ_ H'=>match H' fo with |some (.lst xs)=>100000-xs.length|_=>0) ((cj _ _).mpr ⟨0,l0,ZI,rfl,?_,⟨[],?_,.nil,λr hr=>ZiE⟩,⟨[e0],au,?_,λr hr=>?_⟩,λe=>rP e.symm⟩) ?_ ?_
  ·exact bV (bV (a0 uD) acS) ane
  ·rw[ax rP,ax L4,au];rfl
  ·rw[nu];refine .cons ?_ .nil;rw[ax kI,au];rfl
  ·rw[bo.mp hr];exact λe=>L4 e.symm
  ·intro σ H1 hw;obtain⟨n,lv,hn,rfl,s1,⟨rf,f1,f2,f3⟩,⟨rl,l1,l2,l3⟩,Fd⟩:=(cj _ _).mp hw;have rK:=K4 ms n;have ava:rf.length<=1024:=by rw[du f2];have:n*2 ^ ms.length<=8*128:=aeV Zb anQ;omega
   have kJ:=FY ms n;have fG:rl.length<=128:=by rw[du l2];omega
   ext a;refine⟨_,lenOf H1 lv n rl l1 l2,?_⟩;cases gG:(VU ms).isEmpty with
   |true=>
    simp! [qy];have xR:n=ms.length+1:=by
     by_cases h:n<=ms.length
     ·exact absurd (Ha.mp gG) (ad8 ms n h)
     ·omega
    subst xR;exact k H1 fo s1 uD ⟨rf,f1,f2⟩
   |false=>
    have xR:n<=ms.length:=by
     by_cases h:n<=ms.length
     ·exact h
     ·rw[FX ms n Zb]at gG;cases gG
    simp! [vE,cQ f1];refine⟨_,f1,_,l1,by rw[aq,aq,hsz];omega,?_⟩;have oo:∀b' o',b'≠fo->NT o'->H1 b'=some o'->Zpk b'=some o':=λb' o' fi _ e=>by rw[ax fi];exact e
    have s2:ZQ Zpk:=bV s1 uD;refine⟨lv,b,VU ms,ms,rfl,⟨rl,oo _ _ Fd trivial l1,?_⟩,s2.at hb,Zb,pR,λch hc=>?_,λH3 l3' s3 xU yc=>?_⟩
    ·exact DS oo l3 l2
    ·have:=(u5 n ms ch hc).2;omega
    ·obtain⟨wM,g1,g2,g3⟩:=yc;rw[aaK ms ot n]at g2;have acL:H3 fo=some (.lst ((rf++rl).map V.ref)):=by rw[cA];exact s3.at au
     refine⟨(cj _ _).mpr ⟨n+1,l3',Zb,rfl,Zfx,⟨rf++rl,acL,?_,λr hr=>?_⟩,⟨wM,g1,g2,λr hr e=>?_⟩,λe=>?_⟩,?_⟩
     ·rw[abr];exact aaA (gA (λ_ _ e=>s3.at e) (DS oo f3 f2)) (gA (λ_ _ e=>s3.at e) (DS oo l3 l2))
     ·rcases b8.mp hr with h|h
      ·exact f3 r h
      ·exact l3 r h
     ·have:=(g3 r hr).2;rw[e,au]at this;cases this
     ·rw[e,au]at xU;cases xU
     ·show(match H3 fo with |some (.lst xs)=>100000-xs.length|_=>0)<(match H1 fo with |some (.lst xs)=>100000-xs.length|_=>0);rw[acL,f1];show 100000-((rf++rl).map V.ref).length <100000-(rf.map V.ref).length;rw[aq,aq,bS];have:0<rl.length:=by
       rw[du l2];cases hq:VU ms with
       |nil=>rw[hq]at gG;cases gG
       |cons a b=>exact Nat.succ_pos _
      omega
  ·intro σ H1 Q1 Q2 f h;obtain⟨v,h1,b,h2,h3⟩:=h;exact⟨v,h1,b,h2,f _ _ h3⟩
end
end
section
open Vbwbal (signer load goesWith fits unsigned complete canEnd completion choose subsets)
def Ri(A:Ad):Sp:=λvs H Q _=>∃(r:Addr) (i:bC) (j:aW) (P:Plan) (ab:Za) (c:Choice) (l:Za),vs=[.ref r]/\YM/\ZG/\Xm/\Zh6 c=some l/\
 ∀(H':Hp) (a:Addr),Zd->H' a=some ZeX->Q ZY H'
def Q7(A:Ad):Sp:=λvs H Q _=>∃(r:Addr) (i:bC) (j:aW) (P:Plan) (ab:Za) (c:Choice) (l:Za),vs=[.ref r]/\YM/\ZG/\Xm/\ZhN c=some l/\
 ∀(H':Hp) (a:Addr),Zd->H' a=some ZeX->Q ZY H'
theorem TM(P:Plan)(c:Choice):(Z9 c).Pairwise Vg:=by unfold unsigned;exact afQ _ O5
theorem ahQ(P:Plan)(ab:Za):(kU P ab).Pairwise Vg:=by unfold kU;exact afQ _ O5
theorem alw(P:Plan)(ab:Za):(kU P ab).length <=P.persons.length:=Zbe
theorem aiL{P:Plan}{ab:Za}{c:Choice}{s:Nat}(h:s∈Z9 c):fE XH s=ZJ s:=by have h1:=D_ (o:=XH) (s:=s) (by rw[xy];exact h);obtain⟨t,_,e⟩:=aO.mp h1;have e1:t=s:=ZfG e;have e2:ZJ t=fE XH s:=ZfH e;rw[←e2,e1]
theorem aiX{P:Plan}{ab:Za}{c:Choice}{ss:Za}(h:∀s∈ss,s∈Z9 c):ko XH ss=Wb Zbp ss c:=by rw[xc];unfold ko;refine gv λs hs=>?_;rw[aiL (h s hs)]
theorem aoA(P:Plan)(ab xs:Za)(s x:Nat):fits P (ab++xs) s x=(YG x&& !(xs.contains x)):=by
 unfold fits;cases P.steps[s]? with
 |none=>rfl
 |some t=>
  cases P.persons[x]? with
  |none=>rfl
  |some y=>
   have:(ab++xs).contains x=(ab.contains x||xs.contains x):=by rw[iS,h_,bx,bx,bx,b8]
   show(!((ab++xs).contains x)&&_)=((!(ab.contains x)&&_)&& !(xs.contains x));rw[this];cases ab.contains x<;>cases xs.contains x<;>simp
theorem agm(P:Plan)(ab xs:Za)(c:Choice):jO XH xs=c_ P (ab++xs) c:=by unfold jO c_;rw[bz];refine gv λs _=>?_;show(s,(ZJ s).filter λx=>!(xs.contains x))=(s,bR P (ab++xs) c s);unfold bR;rw[qt];congr 1;refine nD λx _=>?_;rw[aoA];cases fits P ab s x<;>cases goesWith P c s x<;>cases xs.contains x<;>rfl
theorem Nv{α:Type}{p:Zdx}:∀{l:ZN} {i:Nat} {x:α},l[i]? =some x->p x=true->(∀y∈l.take i,p y=false)->l.find? p=some x
 |a::l,0,x,h,hp,_=>by have e:a=x:=bY h;subst e;rw[oR,hp]
 |a::l,i+1,x,h,hp,hn=>by have h1:p a=false:=hn a (by rw[afp];exact aY);rw[oR,h1];exact Nv h hp λy hy=>hn y (by rw[afp];exact ZdI)
section
variable {P:Program}{w:World}{K:PySem.W.Frag}{mg:Zy}{base:Heap}{A:Ad}
theorem aj8{f:Addr}{fd:FuncData}(T:Zm)(iK:Zco)(fA:Zac)(qa:ZkY)
  (MN:Zv "only_steps" GA 1 Q4) (j8:Zeo) (F:Zo "core_steps" "core_steps" JF f fd):ZfF GN (Ri A):=by
 have nd:=SQ.nd;refine F.ok SQ Zk Zn
 ·obtain⟨r,i,j,P,ab,c,l,rfl,_⟩:=h;rfl
 ·obtain⟨r,i,j,P,ab,c,l,rfl,hR,wf,wc,Mf,k⟩:=h;refine⟨_,(ao (W2 Zcw)
   (ao (dN dF rfl (ZV Zsl) VO (ak (bg (eR (Z5 (az j8 hr rfl (ZL (aa (az MN hr rfl (Xl Y7)) ai))) Z2)) (ak (ay ZR)) bp)))
   (ak (ay (bh ai))))),?_⟩
  have AK:=HV wf c;ext Y;refine Zo7;refine⟨u,_,rfl,hu,AK,TM P c,λH3 a s3 Fo ⟨rs,ha,dv⟩=>?_⟩;ext S;obtain⟨Pv,aB⟩:∃Pv:Nat->L2.St->Hp->Prop,∀m σ H',YK H'↔∃(v2:ZM),σ=[some Yr,some Wc,v2]/\Wj H'/\∀ss∈(subsets Z8).take m,(YZ ss c).isNone =false:=Yg;refine Zn3
  ·ext bL;have xG:ss∈subsets Z8:=bI jt;obtain⟨gj,Lr⟩:=zH xG;have AR:=Ic Vt xG;ext cC;ext a;refine⟨d,q,_,ss,rfl,Bi,(xg wf ab c).nd,s4.at eS,AR,λt ht=>by rw[xy];exact gj t ht,Zb,λH5 d5 s5 Mb nj=>?_⟩;rw[aiX gj]at nj;refine⟨r,d5,i,j,P,ab,c,_,rfl,((hR.same cG).same s4).same s5,wf,wc,nj,D9 wf ab _ c AR Zb,λH6 b s6 hb=>?_⟩;have xH:=Zl2 ss c AR (λt ht=>zq t (gj t ht)) wc.room;rw[yG]at xH;have eb:b=(YZ ss c).isSome :=BJ hb xH;ext cB;cases e:(YZ ss c).isSome with
   |true=>
    ext b7;rcases b8.mp ht with h|h
    ·exact gD t h
    ·rw[bo.mp h];cases q:YZ ss c with
     |none=>rw[q]at e;cases e
     |some v=>rfl
   |false=>
    rw[eb,e];ext e;have hn:(YZ ss c).isNone =true:=by
     cases q:YZ ss c with
     |none=>rfl
     |some v=>rw[q]at e;cases e
    have:=Nv jt hn gD;have el:l=ss:=bY (Mf.symm.trans this);rw[el]at k;exact Zrx
  ·ext bX;have h1:=G8 Mf;have h2:=afG Mf;have h3:=gD l h1;rw[h3]at h2;cases h2
theorem ajJ{f:Addr}{fd:FuncData}(T:Zm)(iK:Zco)(p8:Zkf)(qa:ZkY)
  (Mz:Zv "without_persons" Gg 1 QI) (j8:Zeo) (F:Zo "needed_persons" "needed_persons" Ju f fd):ZfF GD (Q7 A):=by
 have nd:=So.nd;refine F.ok So Zk Zn
 ·obtain⟨r,i,j,P,ab,c,l,rfl,_⟩:=h;rfl
 ·obtain⟨r,i,j,P,ab,c,l,rfl,hR,wf,wc,LK,k⟩:=h;refine⟨_,(ao (W2 Zcw)
   (ao (dN dF rfl (ZV (az qa hr rfl (aa ZkZ ai))) VO (ak (bg (eR (Z5 (az j8 hr rfl (ZL (aa (az Mz hr rfl (Xl Y7)) ai))) Z2)) (ak (ay ZR)) bp)))
   (ak (ay (bh ai))))),?_⟩
  have jx:=cq (alw P ab) wf.persons;ext Y;refine Zo7;refine⟨u,_,rfl,hu,jx,ahQ P ab,λH3 a s3 Fo ⟨rs,ha,dv⟩=>?_⟩;ext S;obtain⟨Pv,aB⟩:∃Pv:Nat->L2.St->Hp->Prop,∀m σ H',YK H'↔∃(v2:ZM),σ=[some Yr,some Wc,v2]/\Wj H'/\∀ss∈(subsets (kU P ab)).take m,(!(Zi1 c))=false:=Yg;refine Zn3
  ·ext bL;ext cC;have ok:=xg wf ab c;ext a;refine⟨d,q,_,ss,rfl,Bi,ok.nd,ok.len,ok.rows,s4.at eS,λH5 d5 s5 Mb nj=>?_⟩;rw[agm]at nj;refine⟨r,d5,i,j,P,ab,c,_,rfl,((hR.same cG).same s4).same s5,wf,wc,nj,xg wf (ab++ss) c,λH6 b s6 hb=>?_⟩;have eb:b=Zi1 c:=BJ hb (Tq wf wc);ext cB;cases e:Zi1 c with
   |true=>
    ext b7;rcases b8.mp ht with h|h
    ·exact gD t h
    ·rw[bo.mp h,e];rfl
   |false=>
    rw[eb,e];ext e;have:=Nv (p:=λl=>!(UH (ab++l) c)) jt (by show(!(Zi1 c))=true;rw[e];rfl) gD;have el:l=ss:=bY (LK.symm.trans this);rw[el]at k;exact Zrx
  ·ext bX;have h1:=G8 LK;have h2:=afG LK;have h3:=gD l h1;rw[h3]at h2;cases h2
end
end
section
open Vbwbal (signer load goesWith fits unsigned complete canEnd completion choose subsets barred ready)
abbrev afi:Zc:=["record","step","person","earlier"]
theorem S2:aV afi yY (aA DC):=Zl
abbrev afc:Zc:=["record","step","person"]
theorem SK:aV afc GJ (aA Dx):=Zl
def C7(A:Ad):Sp:=λvs H Q _=>∃(r:Addr) (i:bC) (j:aW) (P:Plan) (ab:Za) (c:Choice) (s x:Nat),vs=[.ref r,nat s,nat x]/\YM/\ZG/\Xm/\s<P.steps.length/\x<P.persons.length/\
 ∀(H':Hp),Zd->Q (nat (ZbB s x)) H'
def Rb(A:Ad):Sp:=λvs H Q _=>∃(r:Addr) (i:bC) (j:aW) (P:Plan) (ab:Za) (c:Choice) (s:Nat),vs=[.ref r,nat s]/\YM/\ZG/\Xm/\s<P.steps.length/\
 ∀(H':Hp) (l:Addr),Zd->H l=none->H' l=some (.lst (nats ((List.range P.persons.length).filter λx=>ZbB s x==0)))->Z0 H'
theorem ahU(P:Plan)(c:Choice)(s:Nat):((WS s).map λt=>(ZS t).isNone).any id= !(ready P c s):=by
 unfold ready iT;rw[bz,vw]
 induction P.after with
 |nil=>rfl
 |cons y r ih=>
  rw[jf,hZ,Bool.not_and,←ih];ext W
  ·have e1:(y.1==s)=true:=by simp[e]
   have e2:(y.1 != s)=false:=by simp[e]
   rw[af e1,ke,e2];cases h:ZS y.2<;>simp[h]
  ·have e1:¬(y.1==s)=true:=by simp[e]
   have e2:(y.1 != s)=true:=by simp[e]
   rw[ae e1,e2];simp
section
variable {P:Program}{w:World}{K:PySem.W.Frag}{mg:Zy}{base:Heap}{A:Ad}
theorem akk{f:Addr}{fd:FuncData}(T:Zm)(yl:ZrX)(yq:ZtB)(yu:Zsz)
  (M3:Zv "can_be_ended_with" GR 14 (Rm A)) (F:Zo "bar_of" "bar_of" DC f fd):YV 15 f fd yY (C7 A):=by
 have nd:=S2.nd;refine F.ok S2 Zk Zn
 ·obtain⟨r,i,j,P,ab,c,s,x,rfl,_⟩:=h;rfl
 ·obtain⟨r,i,j,P,ab,c,st,x,rfl,hR,wf,wc,aT,hx,k⟩:=h;refine⟨_,(ao (bg (bN aaI ZnM tM ZO) (ak (ay (bE T.an4 rfl))) bp)
   (ao (bg (Z5 (ZgW (aa (dW (own:=[("earlier",3)]) rfl nd (ZV (az yl hr rfl (Vr Ws))) (show cB afi (aA DC) _ _ from Yi) ZhL Xe (λ_ _ _ _ _=>(eE Ks (ZaU ZH Z3) tM ZO))) ai)) Z2) (ak (ay (bE T.an2 rfl))) bp)
   (ao (bg (eR (Z5 (az yq hr rfl (ZL (XY Ws))) Z2)) (ak (ay (bE T.aog rfl))) bp)
   (ao (bg (eR (Z5 (az yu hr rfl (ZL (XY Ws))) Z2)) (ak (ay (bE T.aon rfl))) bp)
   (ao (bg (eR (Z5 (az M3 hr rfl (ZL (Xl Y7))) Z2)) (ak (ay (bE T.an9 rfl))) bp)
   (ak (ay (bE T.ade rfl)))))))),?_⟩
  ext v;have n2:=ZcE;simp! [hR.ins,T.dD,n2,wN];refine⟨_,Zi8,_,bQ (IK aT),?_⟩;simp! [EI];unfold barred at k;cases fX:ZS st with
  |some y=>
   rw[fX]at k;exact aI UP
  |none=>
   rw[fX,ae Zf]at k;ext g;simp! [hR.ins,T.dD,n1,lR];refine⟨i.p,j,P,st,rfl,hR.plan,wf.after,λH1 l s1 cY hl=>?_⟩;have fK:=XB;have pO:(WS st).length <=12:=by unfold iT;rw[aq];exact WN wf.after
   refine⟨l,rfl,ZcP,e8 (zs:=WS st) Zju XF Zb Xa (λz=>.bl (ZS z).isNone) Zqr (λD H2 hD s2 h2=>?_)⟩
   ·ext o
    have j7:=fK.same s2;have cE:z<P.steps.length:=(wf.gd _ (.inl (KS.mp Xv))).2;simp! [j7.ins,T.dD,n2,wN];refine⟨_,ag.of j7.ib,_,bQ (IK cE),?_⟩;rw[EI];exact bc rfl _ ZW
   ·refine⟨_,rfl,(WS st).map λz=>(ZS z).isNone,ag.of (by rw[h2,filter_all,bz];rfl),_,rfl,?_⟩;rw[ahU];have cD:=YN;cases hre:ready P c st with
    |false=>
     rw[af hre]at k;exact aI (k H2 cD)
    |true=>
     rw[ae (by rw[hre];simp)]at k;ext g;ext a;refine⟨r,i,j,P,ab,c,x,st,rfl,hR.same cD,wf,hx,aT,λH3 s3=>?_⟩;have cG:=Zde;cases hfi:V7 st x with
     |false=>
      rw[af hfi]at k;exact .inl ⟨rfl,k H3 cG⟩
     |true=>
      rw[ae (by rw[hfi];simp)]at k;refine .inr ZbJ;refine⟨r,i,j,P,ab,c,x,st,rfl,hR.same cG,wf,wc,hx,λH4 s4=>?_⟩;ext aH;cases pW:Zb8 x with
      |false=>
       rw[af pW]at k;exact .inl ⟨rfl,k H4 jS⟩
      |true=>
       rw[ae (by rw[pW];simp)]at k;refine .inr ZbJ;refine⟨r,i,j,P,ab,c,st,x,rfl,hR.same jS,wf,wc,aT,fX,hx,pW,λH5 s5=>?_⟩;have tj:=jS.trans s5;cases gG:UH ab (c++[(st,x)])with
       |false=>
        rw[af gG]at k;exact .inl ⟨rfl,k H5 tj⟩
       |true=>
        rw[ae (by rw[gG];simp)]at k;exact .inr ⟨rfl,k H5 tj⟩
theorem aj2{f:Addr}{fd:FuncData}(T:Zm)(qb:ZkN)(F:Zo "free_signers" "free_signers" Dx f fd):YV 16 f fd GJ (Rb A):=by
 have nd:=SK.nd;refine F.ok SK Zk Zn
 ·obtain⟨r,i,j,P,ab,c,s,rfl,_⟩:=h;rfl
 ·obtain⟨r,i,j,P,ab,c,st,rfl,hR,wf,wc,aT,k⟩:=h;refine⟨_,(ak (ay (dW (own:=[("person",2)]) rfl nd Zpz (show cB afc (aA Dx) _ _ from Yi) Zbh (λ_ _ _ _ _=>iX (WG (az qb hr rfl (ZL (Xl Y7))) (bE T.ade rfl) ZO)) (λ_ _ _ _ _=>ZR)))),?_⟩;ext aI;ext aL;refine ZqQ;rw[mD];refine Zr2 (λx=>ZbB st x==0) nat ZrQ Zee;ext a;refine⟨r,i,j,P,ab,c,st,x,rfl,XB,wf,wc,aT,hx,λH2 s2=>?_⟩;refine ZbJ;by_cases e:ZbB st x=0
  ·have e1:decide (nat (ZbB st x)=V.int 0)=true:=by rw[e];rfl
   rw[e1];exact aI (bc Zdb _ s2)
  ·have e1:decide (nat (ZbB st x)=V.int 0)=false:=by refine aX λq=>e ?_;rw[mU]at q;omega
   rw[e1];exact aF (hS Zdb _ s2)
end
end
section
open Vbwbal (splitBy wordsOf letter digit isName numOf lineOf text)
abbrev asC:Zc:=["byte"]
theorem RV:aV asC Gn (aA Jd):=Zl
abbrev O2:Zc:=["text","signs","byte","line"]
theorem Sx:aV O2 GG (aA zV):=Zl
abbrev ae9:Zc:=["word","sign"]
theorem SE:aV ae9 B1 (aA Dt):=Zl
abbrev afk:Zc:=["words","word"]
theorem S4:aV afk GV (aA DE):=Zl
abbrev afa:Zc:=["word","sign"]
theorem SF:aV afa GH (aA Du):=Zl
theorem ahd:(Str.ofString " ")=⟨#[32]⟩:=by decide+kernel
theorem ahb:(Str.ofString "\n")=⟨#[10]⟩:=by decide+kernel
theorem Qt:(Str.ofString "?")=⟨#[63]⟩:=by decide+kernel
theorem abt:(Str.ofString "abcdefghijklmnopqrstuvwxyz").cps.toList =(List.range 26).map (· +97):=by decide+kernel
theorem adM:(Str.ofString "0123456789").cps.toList =(List.range 10).map (· +48):=by decide+kernel
theorem K5:(Str.ofString "abcdefghijklmnopqrstuvwxyz").length =26:=by decide+kernel
theorem NO:(Str.ofString "0123456789").length =10:=by decide+kernel
theorem abu(c:Nat):decide (c∈(Str.ofString "abcdefghijklmnopqrstuvwxyz").cps.toList)=letter c:=by
 rw[abt];unfold letter;refine rZ.mpr ?_;rw[aO];ext b
 ·rintro⟨k,hk,rfl⟩;have:=dS.mp hk;omega
 ·intro h;exact⟨c-97,ZfB,Zb⟩
theorem adN(c:Nat):decide (c∈(Str.ofString "0123456789").cps.toList)=digit c:=by
 rw[adM];unfold digit;refine rZ.mpr ?_;rw[aO];ext b
 ·rintro⟨k,hk,rfl⟩;have:=dS.mp hk;omega
 ·intro h;exact⟨c-48,ZfB,Zb⟩
theorem aet{xs:Za}{z:Int}{j:Nat}{v:Nat}(e:z=(j:Int))(h:xs[j]? =some v):f_ xs z=some v:=by rw[e];exact bQ h
def QO:Sp:=λvs H Q _=>∃b:Nat,vs=[nat b]/\Q (.str ⟨#[dX b]⟩) H
section
variable {P:Program}{w:World}{K:PySem.W.Frag}{mg:Zy}{base:Heap}{A:Ad}
theorem ajf{f:Addr}{fd:FuncData}(T:Zm)(F:Zo "sign_of" "sign_of" Jd f fd):Z4 Gn QO:=by
 have nd:=RV.nd;refine F.ok RV Zk Zn
 ·obtain⟨b,rfl,_⟩:=h;rfl
 ·obtain⟨b,rfl,k⟩:=h;ext c;refine⟨_,(ao (bg (WG Yu (bE T.aop rfl) ZO) (ak (ay cW)) bp)
   (ao (bg (WG Yu (bE T.aok rfl) ZO) (ak (ay cW)) bp)
   (ao (bg (Kd nZ qX ZnO Yu (cR n0 ZnO (Xd (aa ZnX ai)))) (ak (ay (bj EE ZnX (cR qW Yu ZnO) Z3))) bp)
   (ao (bg (Kd nZ qX ZnP Yu (cR n0 ZnP (Xd (aa ZnY ai)))) (ak (ay (bj EE ZnY (cR qW Yu ZnP) Z3))) bp)
   (ak (ay cW)))))),?_⟩
  have e32:decide (nat b=V.int 32)=decide (b=32):=ZtN;have BB:decide (nat b=V.int 10)=decide (b=10):=ZtN;unfold dX at k;have l1:oT K (.str (Str.ofString "abcdefghijklmnopqrstuvwxyz")) H 26:=⟨by rw[K5,hsz];decide,K5.symm⟩;have l2:oT K (.str ZrW) H 10:=⟨by rw[NO,hsz];decide,NO.symm⟩;ext a;by_cases h1:b=32
  ·rw[af h1]at k;rw[bu (show(b:Int)=32 by omega)];ext e;rw[ahd];exact k
  ·rw[ae h1]at k;rw[aX (show¬(b:Int)=32 by omega)];ext g;by_cases h2:b=10
   ·rw[af h2]at k;rw[bu (show(b:Int)=10 by omega)];ext e;rw[ahb];exact k
   ·rw[ae h2]at k;rw[aX (show¬(b:Int)=10 by omega)];ext g;have low:(if decide ((48 :Int)<=(b:Int))=true then∃x,oT K (V.str ZrW) H x/\if decide ((b:Int)<48+(x:Int))=true then
      (Str.ofString "0123456789").length <=sizeLine/\∃x,f_ (Str.ofString "0123456789").cps.toList ((b:Int)-48)=some x/\Q (V.str {cps:=#[x]}) H else Q (V.str (Str.ofString "?")) H
     else Q (V.str (Str.ofString "?")) H)∨(97<=b/\b<123):=by
     by_cases h3:97<=b/\b<123
     ·exact .inr h3
     ·rw[ae h3]at k;refine .inl ?_;by_cases h4:48<=b
      ·rw[bu (show(48 :Int)<=(b:Int) by omega)];refine aI ⟨10,l2,?_⟩;by_cases h5:b<58
       ·rw[bu (show(b:Int)<48+((10 :Nat):Int) by omega)];rw[af ⟨h4,h5⟩]at k;refine aI ⟨by rw[NO,hsz];decide,b,?_,k⟩;rw[adM];refine aet (j:=b-48) Zb ?_;rw[cx,zc Zb];show some (b-48+48)=some b;congr 1;omega
       ·rw[aX (show¬(b:Int)<48+((10 :Nat):Int) by omega)];rw[ae Zb]at k;ext g;rw[Qt];exact k
      ·rw[aX (show¬(48 :Int)<=(b:Int) by omega)];rw[ae Zb]at k;ext g;rw[Qt];exact k
    by_cases h3:97<=b
    ·rw[bu (show(97 :Int)<=(b:Int) by omega)];refine aI ⟨26,l1,?_⟩;by_cases h4:b<123
     ·rw[bu (show(b:Int)<97+((26 :Nat):Int) by omega)];rw[af ⟨h3,h4⟩]at k;refine aI ⟨by rw[K5,hsz];decide,b,?_,k⟩;rw[abt];refine aet (j:=b-97) Zb ?_;rw[cx,zc Zb];show some (b-97+97)=some b;congr 1;omega
     ·rw[aX (show¬(b:Int)<97+((26 :Nat):Int) by omega)];exact ZsQ
    ·rw[aX (show¬(97 :Int)<=(b:Int) by omega)];exact ZsQ
end
theorem aay{α β:Type}{F G:Ur}:∀{l:ZN} {m:WA},Zcf->(∀a b,a∈l->F a b->G a b)->Paired G l m
 |_,_,.nil,_=>.nil
 |_,_,.cons h t,f=>.cons (f _ _ aY h) (aay t λa b ha=>f a b (ZD ha))
theorem aaz{α β γ:Type}{F:Ur}{G:α->γ->Prop}{h:β->γ}:∀{l:ZN} {m:WA},Zcf->(∀a b,b∈m->F a b->G a (h b))->Paired G l (m.map h)
 |_,_,.nil,_=>.nil
 |_,_,.cons e t,f=>.cons (f _ _ aY e) (aaz t λa b hb=>f a b Za3)
section
variable {α:Type}{K:PySem.W.Frag}{a:Addr}{xs:Ze}{zs:ZN}{g:TG}{tt:TT}{te:TE}{vs:Za}{σ:L2.St}{H1:Hp}{Q:VK}
theorem abB(hx:Ux)(he:ZhJ)(hlen:ZeE)(f:α->Ze)
  (hy:∀(i:Nat) x z H,xs[i]? =some x->zs[i]? =some z->Yc H->∀(R:V->Hp->Prop) (S:Zgf),(∀p,H p=none->R Z7 (Zw p (.lst (f z))))->
   g x (wipe σ vs) H fun σ2 H2=>wipe σ2 vs=wipe σ vs/\tt σ2 H2 λb H3=>if b=true then te σ2 H3 R else S H3)
  (q:∀D H',H1 D=none->V3->(∃rs:List Addr,H' D=some WQ/\Paired (λr z=>H' r=some (.lst (f z))) rs zs/\∀r∈rs,H1 r=none)->ZdH):
  oU ZdD g tt te vs σ Q H1:=by
 intro D hD;refine Zmy (λi H=>Yc H/\∃rs:List Addr,H D=some WQ/\Paired (λr z=>H r=some (.lst (f z))) rs (zs.take i)/\∀r∈rs,r≠D/\H1 r=none) ⟨a0 hD,[],au,.nil,λr hr=>ZiE⟩ (λi H hi p=>?_) Zq1 ?_ (λH p=>?_)
 ·ext ad;exact⟨xs,x,p.1.seq hx,ex⟩
 ·rintro i x H H' hi ⟨s1,rs,hd,hp,aK⟩ y;ext T;ext cH;refine hy i x z _ js hz s1 _ _ λp xP=>?_;have E3:p≠D:=λe=>by rw[e,hd]at xP;cases xP
  have ow:H1 p=none:=s1.free xP;ext c;refine⟨W9,by rw[ax λe=>E3 e.symm];exact hd,?_,bV (bV s1 ow) hD (gf (by rw[ax λe=>E3 e.symm];exact hd)),rs++[p],?_,?_,λr hr=>?_⟩
  ·rw[aq,du hp,eY];omega
  ·rw[au,cA];rfl
  ·rw[dA hz];refine ql ?_ (by rw[ax E3,au]);refine aay hp λr z' hr e=>?_;rw[ax (aK r hr).1,ax (cg e xP)];exact e
  ·rcases b8.mp hr with h|h
   ·exact aK r h
   ·rw[bo.mp h];exact⟨E3,ow⟩
 ·obtain⟨s1,rs,hd,hp,jA⟩:=p;rw[eg]at hp;exact q D H hD s1 ⟨rs,hd,hp,λr hr=>(jA r hr).2⟩
end
theorem Im:∀(l acc:Za),TL.fg [10] 0 acc l=match splitBy 10 l with |[]=>[acc]|x::r=>(acc++x)::r
 |[],acc=>by show[acc]=[acc++[]];rw[fc]
 |c::r,acc=>by
  have hp:TL.pre [10] VX=(c==10):=by
   show([c]==[10])=(c==10);by_cases e:c=10
   ·subst e;rfl
   ·have h1:(c==10)=false:=by simpa using e
    rw[h1];simpa using e
  unfold splitBy;by_cases e:c=10
  ·rw[af e,TL.QE (by rw[hp,e];rfl)];show acc::TL.fg [10] 0 [] r=(acc++[])::Xh r;rw[Im r [],fc];cases h:Xh r with
   |nil=>exact ZdL (lQ 10 r)
   |cons x l=>rfl
  ·rw[ae e,TL.QD (by rw[hp];simpa using e),Im r];cases h:Xh r with
   |nil=>exact ZdL (lQ 10 r)
   |cons x l=>
    show(acc++[c]++x)::l=(acc++c::x)::l;rw[eC];rfl
theorem ahm(l:Za):TL.fg [10] 0 [] l=Xh l:=by
 rw[Im];cases h:Xh l with
 |nil=>exact ZdL (lQ 10 l)
 |cons x r=>rfl
theorem CB:∀(l:Za) (ws:Yv) (u:Za),(∀c∈l,c=32∨(33<=c/\c<=126))->
  TL.qD (l.foldl TL.iw (ws,u))=ws++((match splitBy 32 l with |[]=>[u]|x::r=>(u++x)::r).filter λw=>w.isEmpty==false)
 |[],ws,u,_=>by
  show TL.qD (ws,u)=ws++([u++[]].filter _);rw[fc];unfold TL.qD;cases u with
  |nil=>simp
  |cons a b=>simp
 |c::r,ws,u,h=>by
  have hr:=λd hd=>h d (ZD hd);rw[vq];rcases h c aY with e|e
  ·subst e;have hs:Unicode.isSpace 32=true:=by decide+kernel
   have e2:UG (32::r)=[]::UG r:=by show(if 32=32 then _ else _)=_;rw[af rfl]
   rw[e2];show TL.qD (r.foldl TL.iw (TL.iw (ws,u) 32))=ws++(((u++[])::UG r).filter _);rw[fc];unfold TL.iw;rw[af hs];cases u with
   |nil=>
    rw[af rfl];have ih:=CB r ws [] hr;unfold TL.iw at ih;rw[ih];cases h2:UG r with
    |nil=>exact ZlV
    |cons x l=>simp
   |cons a b=>
    rw[ae Zf];have ih:=CB r (ws++[a::b]) [] hr;unfold TL.iw at ih;rw[ih];cases h2:UG r with
    |nil=>exact ZlV
    |cons x l=>simp
  ·have hs:Unicode.isSpace c=false:=TL.al2 e.1 e.2;have e1:TL.iw (ws,u) c=(ws,u++[c]):=by unfold TL.iw;rw[ae (by rw[hs];simp)]
   rw[e1,CB r ws (u++[c]) hr];have e2:UG VX=match splitBy 32 r with |[]=>[[c]]|x::l=>(c::x)::l:=by show(if c=32 then _ else _)=_;rw[ae Zb];rfl
   rw[e2];cases h2:UG r with
   |nil=>exact ZlV
   |cons x l=>
    show ws++(((u++[c])++x)::l).filter _=ws++((u++c::x)::l).filter _;rw[eC];rfl
theorem agh{l:Za}(h:∀c∈l,c=32∨(33<=c/\c<=126)):TL.qD (l.foldl TL.iw ([],[]))=Vbwbal.wordsOf l:=by
 rw[CB l [] [] h];unfold Vbwbal.wordsOf;cases h2:UG l with
 |nil=>exact absurd h2 (lQ 32 l)
 |cons x r=>rfl
theorem ak9(c:Nat):dX c=10∨dX c=32∨(33<=dX c/\dX c<=126):=by
 unfold dX;split
 ·omega
 ·split
  ·omega
  ·split
   ·omega
   ·split
    ·omega
    ·omega
theorem CW{sep:Nat}:∀{l x:Za} {c:Nat},x∈WO l->c∈x->c∈l/\c≠sep
 |[],x,c,hx,hc=>by rw[show splitBy sep []=[[]]from rfl,bo]at hx;rw[hx]at hc;cases hc
 |d::r,x,c,hx,hc=>by
  unfold splitBy at hx;by_cases e:d=sep
  ·rw[af e]at hx;rcases aJ.mp hx with h|h
   ·rw[h]at hc;cases hc
   ·obtain⟨h1,h2⟩:=CW h hc;exact ZnC
  ·rw[ae e]at hx;cases h2:WO r with
   |nil=>exact absurd h2 (lQ sep r)
   |cons y l=>
    rw[h2]at hx;rcases aJ.mp hx with h|h
    ·rw[h]at hc;rcases aJ.mp hc with q|q
     ·rw[q];exact⟨aY,e⟩
     ·obtain⟨h3,h4⟩:=CW (show y∈WO r by rw[h2];exact aY) q;exact⟨ZD h3,h4⟩
    ·obtain⟨h3,h4⟩:=CW (show x∈WO r by rw[h2];exact ZD h) hc;exact⟨ZD h3,h4⟩
theorem abX:∀ls:List Za,TL.mX [] ls=ls.flatten
 |[]=>rfl
 |[p]=>by simp[TL.mX]
 |p::q::r=>by show p++([]++TL.mX [] (q::r))=p++(q::r).flatten;rw[abX (q::r)];rfl
def atq(H0 H:Hp)(a:Addr)(ls:VT):Prop:=∃rs:List Addr,H a=some WQ/\Paired (λr (ws:List Bytes)=>H r=some VD) rs ls/\∀r∈rs,H0 r=none
def Q9:Sp:=λvs H Q _=>∃(a:Addr) (t:Bytes),vs=[.ref a]/\H a=some ZmU/\t.length<=4000/\
 ∀(H':Hp) (l:Addr),Zd->H l=none->atq H H' l (Er t)->Z0 H'
section
variable {P:Program}{w:World}{K:PySem.W.Frag}{mg:Zy}{base:Heap}{A:Ad}
theorem ajQ{f:Addr}{fd:FuncData}(T:Zm)(MF:Zv "sign_of" Gn 1 QO)(F:Zo "lines_of" "lines_of" zV f fd):X5 GG Q9:=by
 have nd:=Sx.nd;refine F.ok Sx Zk Zn
 ·obtain⟨a,t,rfl,_⟩:=h;rfl
 ·obtain⟨a,t,rfl,ha,hlen,k⟩:=h;ext c;refine⟨_,(ao (W2 (aat cW (dW (own:=[("byte",2)]) rfl nd Zga (show cB O2 (aA zV) _ _ from Yi) Zbh Xe (λ_ _ _ _ _=>(az MF hr rfl (XY ai))))))
   (ak (ay (dW (own:=[("line",3)]) rfl nd (cf K (ait (pv 1) cW)) (show cB O2 (aA zV) _ _ from cP (by decide+kernel)) (λ_ _ _ _ _=>(aZ 3 nd)) (λ_ _ _ _ _=>fU) (λ_ _ _ _ _=>(aiq (pv 3))))))),?_⟩
  ext a;refine⟨UB,e8 (zs:=t) Xg XF Zb Xa (λb=>.str ⟨#[dX b]⟩) (λi v b H' hv hb s1 R S bc hS=>?_) (λD H1 hD s1 h1=>?_)⟩
  ·obtain⟨b',fi,rfl⟩:=Zby;rw[hb]at fi;cases fi
   ext a;exact⟨b,rfl,bc rfl _ ZW⟩
  ·rw[filter_all]at h1;have e0:TL.tl Zmc=[]:=by decide+kernel
   have BB:TL.tl Uc=[10]:=by decide+kernel
   obtain⟨ys,i6⟩:∃ys:List Str,ys=t.map λb=>⟨#[dX b]⟩:=Zs;have hS:TL.tl ZjE=mask t:=by
    rw[TL.join_eq,TL.HX,e0,abX,i6,bz];show(t.map λb=>[dX b]).flatten =t.map dX;clear ha hlen h1 i6 k
    induction t with
    |nil=>rfl
    |cons a r ih=>
     rw[cw,nB,ih];rfl
   have hSl:(Txt.join Zmc ys).length =t.length:=by rw[TL.mV,hS];exact X0
   have jr:(ys.map λx=>x.length).sum =t.length:=by
    rw[i6,bz];show(t.map λ_=>1).sum =t.length;clear ha hlen h1 i6 hS hSl k
    induction t with
    |nil=>rfl
    |cons a r ih=>
     rw[cw,afq,ih,bb];omega
   refine⟨D,rfl,ys,.inl (ag.of (by rw[h1,i6,bz];rfl)),?_,ZT,by rw[hSl,hsz];omega,λp hp=>⟨p,rfl,⟨_,ag.of au⟩,?_⟩⟩
   ·rw[jr,show(Str.ofString "").length =0 by decide+kernel];omega
   ·have hL:=TL.ahl ZjE Uc (by rw[BB];simp) (TL.alH ZT);rw[BB,hS,ahm]at hL;have hLl:(ZcZ Uc).length <=t.length+1:=by
     have h2:(ZcZ Uc).length =(Xh (mask t)).length :=by have:=Zaw hL;rw[aq]at this;exact this
     rw[h2];have h3:∀l:List Nat,(Xh l).length <=l.length+1:=by
      intro l
      induction l with
      |nil=>exact ZC
      |cons c r ih=>
       unfold splitBy;split
       ·rw[bb,bb];omega
       ·cases h4:Xh r with
        |nil=>exact absurd h4 (lQ 10 r)
        |cons x l=>
         rw[h4]at ih;rw[bb,bb]at *;omega
     have h4:=h3 (mask t);ext cT
    have hwd:∀z∈ZcZ Uc,(Txt.words z).map V.str=(Vbwbal.wordsOf (TL.tl z)).map aE/\z.length<=t.length:=by
     intro z hz;have cO:TL.tl z∈Xh (mask t):=by rw[←hL];exact Zbj
     have gW:∀c∈TL.tl z,c=32∨(33<=c/\c<=126):=λc hc=>by
      obtain⟨h2,h3⟩:=CW cO hc;obtain⟨b,_,rfl⟩:=aO.mp h2;rcases ak9 b with h4|h4
      ·exact absurd h4 h3
      ·exact h4
     refine Zf4
     ·rw[←agh gW,←TL.age,bz];refine gv λu _=>?_;show V.str u=V.str ⟨(TL.tl u).toArray⟩;rw[TL.ak3]
     ·rw[TL.mV];have h6:∀(l x:Za),x∈Xh l->x.length<=l.length:=by
       intro l
       induction l with
       |nil=>
        intro x hx;rw[show splitBy 10 []=[[]]from rfl,bo]at hx;rw[hx];exact ZC
       |cons c r ih=>
        intro x hx;unfold splitBy at hx;split at hx
        ·rcases aJ.mp hx with q|q
         ·rw[q];exact ZI
         ·have:=ih x q;rw[bb];omega
        ·cases h4:Xh r with
         |nil=>exact absurd h4 (lQ 10 r)
         |cons y l=>
          rw[h4]at hx ih;rcases aJ.mp hx with q|q
          ·have:=ih y aY;rw[q,bb,bb];omega
          ·have:=ih x ZdV;rw[bb];omega
      have h7:=h6 _ _ cO;ext cT
    refine abB (zs:=ZcZ Uc) (ag.of au) X0 Zb (λz=>(Txt.words z).map V.str) (λi v z H' hv hz s2 R S bc=>?_) (λD2 H2 yi s2 h2=>?_)
    ·ext o
     have:=(hwd z Xv).2;ext a;exact⟨by rw[hsz];omega,bc⟩
    ·obtain⟨rs,g1,g2,g3⟩:=h2;have sp:Yc (Yo p (.lst ((ZcZ Uc).map V.str))):=WE;refine k H2 D2 ((s1.trans sp).trans s2) ((s1.trans sp).free yi) ⟨rs,g1,?_,λr hr=>(s1.trans sp).free (g3 r hr)⟩;have e1:Er t=(ZcZ Uc).map λz=>Vbwbal.wordsOf (TL.tl z):=by rw[alq,←hL,bz];rfl
     rw[e1];refine aaz g2 λr z hz e=>?_;rw[e,(hwd z hz).1]
end
end
section
open Vbwbal (splitBy letter digit isName numOf lineOf text)
def IB:Sp:=λvs H Q _=>∃w:Bytes,vs=[aE w]/\w≠[]/\w.length<=5000/\∀H',Zd->Q (.bl (isName w)) H'
def IG:Sp:=λvs H Q _=>∃(a:Addr) (ws:ZA),vs=[.ref a]/\H a=some VD/\(∀w∈ws,w≠[]/\w.length<=5000)/\ws.length<=5000/\∀H',Zd->Q (.bl (ws.all isName)) H'
def Q_:Sp:=λvs H Q _=>∃w:Bytes,vs=[aE w]/\w≠[]/\w.length<=5000/\∀H',Zd->Q (.bl (gB w)) H'
theorem aha:(Str.ofString "0")=⟨#[48]⟩:=by decide+kernel
theorem sR(w:Bytes):(⟨w.toArray⟩:Str).length =w.length:=by rw[TL.mV]
theorem acR{w:Bytes}(h:w≠[]):∃c r,w=c::r:=by
 cases w with
 |nil=>exact absurd rfl h
 |cons c r=>exact⟨c,r,rfl⟩
section
variable {P:Program}{w:World}{K:PySem.W.Frag}{mg:Zy}{base:Heap}{A:Ad}
theorem ajV{f:Addr}{fd:FuncData}(T:Zm)(F:Zo "is_name" "is_name" Dt f fd):Z4 B1 IB:=by
 have nd:=SE.nd;refine F.ok SE Zk Zn
 ·obtain⟨w,rfl,_⟩:=h;rfl
 ·obtain⟨w,rfl,aK,hlen,k⟩:=h;ext c;obtain⟨c,r,hw⟩:=acR aK;refine⟨_,(ao (bg (PW.pt (px (bN pD Zaj (bE T.aoi rfl) ZO) (pq (bN aiO (bj EE Yu aR Z3) ZnX rfl)))) Ut bp)
   (ak (ay (bW (uY K rfl) (by rfl) T.rg u_ (aa (dW (own:=[("sign",1)]) rfl nd (Kg (pv 0)) (show cB ae9 (aA Dt) _ _ from cP (by decide+kernel)) (λ_ _ _ _ _=>(aZ 1 nd)) (λ_ _ _ _ _=>fU) (λ_ _ _ _ _=>(aap (eE Kt (pv 1) (qT T.FE rfl) rfl) (mR (eE Kt (pv 1) (qT T.FF rfl) rfl))))) ai))))),?_⟩
  have l1:Zs1:=⟨ZhG,(sR w).symm⟩;have x9:f_ (⟨w.toArray⟩:Str).cps.toList 0=some c:=Zdw (by rw[hw];rfl);unfold isName at k;simp! [aE];refine⟨_,l1,?_⟩;by_cases hl:w.length<=12
  ·rw[aX (show¬(12 :Int)<(w.length:Int) by omega)];refine aF ⟨ZhG,c,x9,?_⟩;rw[abu];have hh:w.head?.any letter=letter c:=by rw[hw];rfl
   rw[hh,bu hl,vG]at k;cases hc:letter c with
   |false=>
    rw[hc]at k;exact aI UP
   |true=>
    rw[hc,fm]at k;ext g;refine Zor (λc=>.bl (letter c||digit c)) Zrk Va
    ·simp! [abu,adN];have:=bc rfl H' ZW;cases e:letter c with
     |true=>
      rw[e]at this;exact aI this
     |false=>
      rw[e]at this;exact aF this
    ·ext E;refine⟨_,rfl,w.map λc=>letter c||digit c,Zcx,?_⟩;rw[mB];exact Wy
  ·rw[bu (show(12 :Int)<(w.length:Int) by omega)];rw[aX hl,Hr,Hr]at k;exact aI UP
theorem akm{f:Addr}{fd:FuncData}(T:Zm)(rX:Zv "is_name" B1 1 IB)(F:Zo "are_names" "are_names" DE f fd):X5 GV IG:=by
 have nd:=S4.nd;refine F.ok S4 Zk Zn
 ·obtain⟨a,ws,rfl,_⟩:=h;rfl
 ·obtain⟨a,ws,rfl,ha,uo,hlen,k⟩:=h;refine⟨_,(ak (ay (Zeh (aa (dW (own:=[("word",1)]) rfl nd Zga (show cB afk (aA DE) _ _ from Yi) Zes Xe (λ_ _ _ _ _=>(az rX hr rfl (Xl ai)))) ai)))),?_⟩;ext a;refine⟨UB,ZrK (λw=>.bl (isName w)) (λi v w H' hv hw s1 R S bc hS=>?_) Va⟩
  ·obtain⟨w',hw',rfl⟩:=Zby;rw[hw]at hw';cases hw'
   obtain⟨h1,h2⟩:=uo w (bI hw);ext a;exact⟨w,rfl,h1,h2,λH2 s2=>bc rfl _ s2⟩
  ·ext E;refine⟨_,rfl,ws.map isName,Zcx,?_⟩;rw[mB];exact Wy
theorem ajW{f:Addr}{fd:FuncData}(T:Zm)(F:Zo "is_most" "is_most" Du f fd):Z4 GH Q_:=by
 have nd:=SF.nd;refine F.ok SF Zk Zn
 ·obtain⟨w,rfl,_⟩:=h;rfl
 ·obtain⟨w,rfl,aK,hlen,k⟩:=h;ext c;obtain⟨c,r,hw⟩:=acR aK;refine⟨_,(ao (bg (PW.pt (px (bN pD Zaj aR ZO) (pq (eR (Z5 (Zeh (aa (dW (own:=[("sign",1)]) rfl nd (Kg Yu) (show cB afa (aA Du) _ _ from Yi) Zes Xe (λ_ _ _ _ _=>(eE Kt ZE ZnY rfl))) ai)) Z2))))) Ut bp)
   (ak (ay (aap (eE cS (bW (c6 K) (by rfl) T.cM cU (aa (pv 0) ai)) aR (bB _)) (mR (eE xh (bj EE (pv 0) aR (λ_ _=>rfl)) cW (bB _))))))),?_⟩
  have l1:∀H,Zs1:=λH=>⟨ZhG,(sR w).symm⟩;have x9:f_ (⟨w.toArray⟩:Str).cps.toList 0=some c:=Zdw (by rw[hw];rfl);unfold gB at k;simp! [aE];refine⟨_,l1 H,?_⟩;by_cases hl:w.length<=2
  ·rw[aX (show¬(2 :Int)<(w.length:Int) by omega)];rw[bu hl,fm]at k;ext g;refine Zor (λc=>.bl (digit c)) Zrk Va
   ·simp! [adN];exact bc rfl H' ZW
   ·ext E;refine⟨_,rfl,w.map digit,Zcx,?_⟩;rw[mB];have ea:(w.all (id∘digit))=w.all digit:=rfl;rw[ea];cases hd:w.all digit with
    |false=>
     rw[hd]at k;exact⟨_,rfl,aI Wy⟩
    |true=>
     rw[hd,fm]at k;refine⟨_,rfl,aF ?_⟩;ext a;refine⟨_,l1 H',?_⟩;by_cases h1:w.length=1
     ·rw[af (show(w.length:Int)=1 by omega)];rw[bu h1]at k;exact Wy
     ·rw[ae (show¬(w.length:Int)=1 by omega)];rw[aX h1,Hq]at k;refine⟨ZhG,c,x9,?_⟩;have e2:(!decide ((⟨#[c]⟩:Str)=Str.ofString "0"))=decide (w.head?≠some 48):=by
       rw[aha,hw];show(!decide ((⟨#[c]⟩:Str)=⟨#[48]⟩))=decide (some c≠some 48);by_cases e:c=48
       ·subst e;rfl
       ·have hn:¬(⟨#[c]⟩:Str)=⟨#[48]⟩:=λq=>e (by rw[wB]at q;exact q);rw[aX hn,bu (show some c≠some 48 from λq=>e (bY q))];rfl
      rw[e2];exact Wy
  ·rw[bu (show(2 :Int)<(w.length:Int) by omega)];rw[aX hl,gK]at k;exact aI UP
end
end
section
open Vbwbal (splitBy letter digit isName numOf lineOf text)
abbrev as3:Zc:=["words"]
theorem SH:aV as3 GI (aA JD):=Zl
theorem ofString_eq(s:String):Str.ofString s=⟨(text s).toArray⟩:=TL.adx (by rw[TL.agS];rfl)
theorem qJ(s:String):V.str ZeU=aE (text s):=by rw[ofString_eq];rfl
theorem eW(w:Bytes)(s:String):decide (aE w=V.str ZeU)=decide (w=text s):=by rw[qJ];exact rZ.mpr (by rw[ahe])
theorem eQ(w:Bytes)(z:Str):qL (aE w) ZdU=true:=rfl
def fZ(ws:ZA):Bool:=
 if ws.getD 0 []=text "role"then decide (ws.length=2)&&isName YY
 else if ws.getD 0 []=text "person"then decide (2<=ws.length)&&(ws.drop 1).all isName
 else if ws.getD 0 []=text "step"then decide (4<=ws.length)&&(isName YY&&(decide (ws.getD 2 []=text "by")&&(ws.drop 3).all isName))
 else if ws.getD 0 []=text "after"∨ws.getD 0 []=text "unlike"∨ws.getD 0 []=text "alike"then decide (ws.length=3)&&(ws.drop 1).all isName
 else if ws.getD 0 []=text "most"then decide (ws.length=3)&&(isName YY&&gB Uq)
 else false
structure oM(ws:ZA):Prop where
 ne:ws≠[]
 word:∀w∈ws,w≠[]/\w.length<=5000
 len:ws.length<=5000
theorem BC(xs:Ze)(k:Nat):ja xs Znx none=xs.drop k:=by
 unfold ja;rw[HT.DO,HT.Tt];by_cases h:k<=xs.length
 ·rw[OV h];exact vn (by rw[mz];exact ZC)
 ·rw[Nat.min_eq_right Zb,Hg,List.drop_eq_nil_of_le Zb,List.take_nil]
theorem kQ{ws:ZA}{k:Nat}(h:k<ws.length):(ws.map aE)[k]? =some (aE ZnA):=by rw[cx,jL,fP h];rfl
theorem qC{ws:ZA}(ok:oM ws){k:Nat}(h:k<ws.length):ws.getD k []≠[]/\(ws.getD k []).length <=5000:=by
 have:ws.getD k []∈ws:=by rw[jL,fP h];exact afw h
 exact ok.word _ this
def Ra:Sp:=λvs H Q _=>∃(a:Addr) (ws:ZA),vs=[.ref a]/\H a=some VD/\oM ws/\∀H',Zd->Q (.bl (fZ ws)) H'
theorem NB(a:Bytes)(s:String):jG (.str ZeU) (aE a)=decide (a=text s):=by
 rw[qJ];show((⟨(text s).toArray⟩:Str)==⟨a.toArray⟩)=_;by_cases h:a=text s
 ·subst h;rw[bu rfl];exact r9 _
 ·rw[aX h];refine ip.mpr λq=>h ?_;rw[str_inj]at q;exact q.symm
section
variable {P:Program}{w:World}{K:PySem.W.Frag}{mg:Zy}{base:Heap}{A:Ad}
theorem ajZ{f:Addr}{fd:FuncData}(T:Zm)(rX:Zv "is_name" B1 1 IB)(Bn:Zv "are_names" GV 2 IG)(MT:Zv "is_most" GH 1 Q_)(F:Zo "has_form" "has_form" JD f fd):VM GI Ra:=by
 have nd:=SH.nd;refine F.ok SH Zk Zn
 ·obtain⟨a,ws,rfl,_⟩:=h;rfl
 ·obtain⟨a,ws,rfl,ha,ok,k⟩:=h;ext c;refine⟨_,(ao (Zhv (ak (ay (Zlx (mR ZkC)))) bp)
   (ao (Zhv (ak (ay (lT (eE Ku Zaj aR ZO) ZjL))) bp)
   (ao (Zhv (ak (ay (lT (eE Ku Zaj aR ZO) (lT ZkC (lT (eE cS Zed cW ZO) ZjL))))) bp)
   (ao (bg (bN VZ Zed (DY T.adb rfl) rfl) (ak (ay (Zlx ZjL))) bp)
   (ao (Zhv (ak (ay (Zlx (lT ZkC (mR (az MT hr rfl (aa Zed ai))))))) bp)
   (ak (ay ki))))))),?_⟩
  ext a7;ext aT;have gk:∀k:Nat,k<ws.length->f_ Zdh ((k:Nat):Int)=some (aE ZnA):=λk h=>bQ (kQ h);have Ax:∀H,H a=some VD->oT K ZY H ws.length:=λH h=>.inl ⟨_,ZaV,(aq _).symm⟩;have names:∀(n:Nat) (H1:Hp) (Q1:VK),ZQ H1->(∀H',Zd->Q1 (.bl ((ws.drop n).all isName)) H')->∀p,H1 p=none->IG ([V.ref p]++[]) (Yo p (.lst (ja Zdh (some (n:Int)) none))) Q1 E0:=λn H1 Q1 s1 h p hp=>by
   refine⟨p,ws.drop n,rfl,?_,λw hw=>ok.word w (List.mem_of_mem_drop hw),?_,λH' s2=>h H' ((s1.trans WE).trans s2)⟩
   ·rw[au,BC,Cm]
   ·rw[mz];have:=ok.len;omega
  unfold fZ at k;simp! [eQ,eW];ext ae;ext af
  ·rw[af h1]at k;simp! [h1];refine ZeT;by_cases hl:ws.length=2
   ·rw[bu (show(ws.length:Int)=2 by omega)];rw[bu hl,fm]at k;exact aI ⟨_,Xg,_,gk 1 Zb,_,rfl,(qC ok Zb).1,(qC ok Zb).2,k⟩
   ·rw[aX (show¬(ws.length:Int)=2 by omega)];ext R
  ·rw[ae h1]at k;simp! [h1];ext ae;ext P
   ·rw[af h2]at k;simp! [h2];refine ZeT;by_cases hl:2<=ws.length
    ·rw[bu (show(2 :Int)<=(ws.length:Int) by omega)];ext cs
    ·rw[aX (show¬(2 :Int)<=(ws.length:Int) by omega)];ext R
   ·rw[ae h2]at k;simp! [h2];ext ae;ext Q
    ·rw[af h3]at k;simp! [h3];refine ZeT;by_cases hl:4<=ws.length
     ·rw[bu (show(4 :Int)<=(ws.length:Int) by omega)];ext bT;cases e:isName YY with
      |false=>
       rw[e,gK]at k;exact aF (k H1 s1)
      |true=>
       rw[e,fm]at k;ext e;refine⟨_,ZcL,_,gk 2 Zb,?_⟩;simp! [eQ,eW];by_cases h4:ws.getD 2 []=text "by"
       ·rw[bu h4,fm]at k;rw[bu h4];exact aI ⟨_,ZcL,names 3 H1 Q s1 k⟩
       ·rw[aX h4,gK]at k;rw[aX h4];exact aF (k H1 s1)
     ·rw[aX (show¬(4 :Int)<=(ws.length:Int) by omega)];ext R
    ·rw[ae h3]at k;simp! [h3];refine⟨_,Xg,_,g0,A.lU,_,rfl,.inr (T.lU H),rfl,rfl,?_⟩;have ein:mZ (aE Ug) [.str "after",.str "unlike",.str "alike"]=decide (ws.getD 0 []=text "after"∨ws.getD 0 []=text "unlike"∨ws.getD 0 []=text "alike"):=by unfold mZ;rw[ke,ke,ke,List.any_nil,NB,NB,NB,PD];by_cases q1:ws.getD 0 []=text "after"<;>by_cases q2:ws.getD 0 []=text "unlike"<;>by_cases q3:ws.getD 0 []=text "alike"<;>simp[q1,q2,q3]
     rw[ein];refine Yy;by_cases h4:ws.getD 0 []=text "after"∨ws.getD 0 []=text "unlike"∨ws.getD 0 []=text "alike"
     ·rw[af h4]at k;rw[bu h4];ext e;refine ZeT;by_cases hl:ws.length=3
      ·rw[bu ZqY];ext cs
      ·rw[aX ZqA];ext R
     ·rw[ae h4]at k;rw[aX h4];ext g;ext ae;by_cases h5:ws.getD 0 []=text "most"
      ·rw[af h5]at k;simp! [h5];refine ZeT;by_cases hl:ws.length=3
       ·rw[bu ZqY];ext bT;cases e:isName YY with
        |false=>
         rw[e,gK]at k;exact aF (k H1 s1)
        |true=>
         rw[e,fm]at k;ext e;exact⟨_,ZcL,_,gk 2 Zb,_,rfl,(qC ok Zb).1,(qC ok Zb).2,λH2 s2=>k H2 YN⟩
       ·rw[aX ZqA];ext R
      ·rw[ae h5]at k;simp! [h5];exact UP
end
end
section
section
variable {X:Cx}
def ah0:R2:=λx y H Q=>∃t q a b ps,x=V.ref t/\y=V.ref q/\H t=some (.tup [nat a,nat b])/\g8 H q ps/\Q (.bl (ps.contains (a,b))) H
def tO(H:Hp)(a b:Int):Value->Bool
 | .ref r=>(match H r with
  |some (.tup [.int i,.int j])=>(i==a)&&((j==b)&&true)
  |_=>false)
 |_=>false
theorem aiU(hu:Zmh):Zhz ah0:=by
 ext m;obtain⟨t,q,a,b,ps,rfl,rfl,ht,⟨rs,hq,dv⟩,hQ⟩:=h;cases rx
 cases ry
 obtain⟨its,rv,pl,hz⟩:=I.list (ag.of hq);have dp:∀(r:Addr) (p:Xr),H r=some Zj8->Dp X.K H Yr ZrC:=λr p h=>.tup (bM.of h) (ZnD (ZnD .nil));obtain⟨bs,r2⟩:=ZfS _ Zb3 Zb3 (dp t (a,b) ht) rfl;have key:∀(rs:Zz) (its:Zp) (ps:ZX),Vals W9 its->Zpx ps->
   (∀w∈its,SeqAt.EqAt X.A.in1 s w Zb3 (Zdo w))/\its.any Zdo=ps.contains (a,b):=by
  intro rs its ps hv hp
  induction hp generalizing its with
  |nil=>
   cases hv
   exact⟨λw hw=>(by cases hw),rfl⟩
  |cons h t' ih=>
   rename_i r p l1 l2;cases hv with
   |cons r1 rv1=>
    cases r1
    obtain⟨h1,h2⟩:=ih _ rv1;have e1:Zdo Yr=(((p.1:Int)==(a:Int))&&(((p.2:Int)==(b:Int))&&true)):=by unfold tO;simp only[h];rfl
    refine⟨λw hw=>?_,?_⟩
    ·rcases aJ.mp hw with e|hw
     ·subst e;obtain⟨as,r3⟩:=ZfS _ Yr Yr (dp r p h) rfl;have:=SeqAt.eqAt_reads ZrC (.tuple [.int a,.int b]) X.A.in1 s _ _ _ _ r3 r2 rfl rfl (by have h1:X.A.in1.units=X.A.units+1:=rfl;have h2:min (PyData.tuple [PyData.int p.1,PyData.int p.2]).depth (PyData.tuple [PyData.int a,PyData.int b]).depth <=10:=cq (Nat.min_le_left _ _) (by show(PyData.tuple [PyData.int (p.1:Int),PyData.int (p.2:Int)]).depth <=10;simp[PyData.depth,PyData.depthAll]);omega)
      rw[e1];ext d
     ·exact h1 w hw
    ·rw[ke,h2,Hh,e1];congr 1;rw[vG];by_cases q1:p.1=a
     ·by_cases q2:p.2=b
      ·subst q1 q2;simp
      ·have e3:((p.2:Int)==(b:Int))=false:=ip.mpr λz=>q2 (mE z);have e4:((a,b)==p)=false:=ip.mpr λz=>q2 (ZfH z).symm;rw[e3,e4,Hr]
     ·have e3:((p.1:Int)==(a:Int))=false:=ip.mpr λz=>q1 (mE z);have e4:((a,b)==p)=false:=ip.mpr λz=>q1 (ZfG z).symm;rw[e3,e4,gK]
 obtain⟨k1,k2⟩:=key rs its ps rv dv;refine SeqAt.in_listAt Zdo pl.isList (λw hw=>k1 w (by simpa using hw)) ZeA;rw[show its.toArray.any Zdo=its.any Zdo by simp,k2];exact hQ
end
end
section
open Vbwbal (splitBy letter digit isName numOf lineOf text stepNames personNames indexOf)
abbrev aeW:Zc:=["names","most","words","known","wanted","name"]
theorem RH:aV aeW Ge (aA De):=Zl
abbrev asP:Zc:=["plan","words","first","second"]
theorem Si:aV asP BW (aA Jq):=Zl
abbrev asq:Zc:=["plan","words","pair","told"]
theorem RG:aV asq Gd (aA IT):=Zl
theorem Ig(l:ZA):(l.map aE).all il=true:=by rw[mB];exact dh.mpr λ_ _=>rfl
theorem NG(a b:Bytes):jG (aE a) (aE b)=(b==a):=by
 show((⟨a.toArray⟩:Str)==⟨b.toArray⟩)=(b==a);by_cases h:b=a
 ·subst h;rw[r9,r9]
 ·rw[ip.mpr h];refine ip.mpr λq=>h ?_;rw[str_inj]at q;exact q.symm
theorem acb(x:Bytes)(l:ZA):mZ (aE x) (l.map aE)=l.contains x:=by
 unfold mZ;rw[vw]
 induction l with
 |nil=>rfl
 |cons a r ih=>
  rw[ke,Hh,ih];congr 1;exact NG a x
theorem J5{K:PySem.W.Frag}{H:Hp}{q:Addr}{l:ZA}{x:Bytes}{Q:VK}(h:H q=some ZeO)(hQ:Q (.bl (l.contains x)) H):qP K false (aE x) XO H Q:=
 ⟨q,_,rfl,.inl ZaV,rfl,Ig _,by rw[acb];exact hQ⟩
theorem TR{K:PySem.W.Frag}{H:Hp}{q:Addr}{l:ZA}{x:Bytes}{Q:VK}(h:H q=some ZeO)(hQ:Q (.bl (!l.contains x)) H):qP K true (aE x) XO H Q:=
 ⟨q,_,rfl,.inl ZaV,rfl,Ig _,by rw[acb];exact hQ⟩
theorem DT{K:PySem.W.Frag}{H:Hp}{q:Addr}{l:ZA}{x:Bytes}{Q:VK}(h:H q=some ZeO)(hx:x∈l)(hQ:Q (nat (l.findIdx λy=>y==x)) H):J8 K XO [aE x] H Q:=by
 have bG:l.findIdx (λy=>y==x)<l.length:=Hc ⟨x,hx,r9 x⟩;refine⟨q,_,aE x,l.findIdx λy=>y==x,aE l[l.findIdx λy=>y==x],rfl,rfl,ZaV,rfl,Ig _,?_,?_,λm z hm hz=>?_,hQ⟩
 ·rw[cx,fP bG];rfl
 ·rw[NG];have:=List.findIdx_getElem (p:=λy=>y==x) (w:=bG);rw[oK]at this;rw[this];exact r9 x
 ·obtain⟨y,hy,rfl⟩:=get_map hz;rw[NG];have h1:=List.not_of_lt_findIdx hm;have h2:l[m]? =some l[m]:=fP Zb;rw[hy]at h2;have h3:y=l[m]:=bY h2;rw[h3];refine ip.mpr λe=>?_;rw[←e,r9]at h1;cases h1
theorem Li{l:ZA}{x:Bytes}(h:l.contains x=true):indexOf l x=some (l.findIdx λy=>y==x):=by unfold indexOf;rw[af h]
theorem Lh{l:ZA}{x:Bytes}(h:l.contains x=false):indexOf l x=none:=by unfold indexOf;rw[ae (by rw[h];simp)]
def jn(ns:ZA)(most:Nat)(w:Bytes)(ks xs:ZA):Nat:=if ns.contains w=true then 2 else if(xs.all λx=>Uu)=false then 3 else if ns.length=most then 5 else 0
def QG:Sp:=λvs H Q _=>∃(n w kn wa:Addr) (ns ws ks xs:ZA) (most:Nat),vs=[.ref n,nat most,.ref w,.ref kn,.ref wa]/\H n=some (.lst (ns.map aE))/\H w=some VD/\H kn=some (.lst (ks.map aE))/\H wa=some (.lst (xs.map aE))/\
 1<ws.length/\xs.length<=5000/\∀H',Zd->Q (nat (jn ns most YY ks xs)) H'
def bK(P:Plan)(w:Bytes):Nat:=(stepNames P).findIdx λy=>y==w
def bP(P:Plan)(ws:ZA):Nat×Nat:=if ws.getD 0 []=text "after"then(bK P YY,bK P Uq)else(min (bK P YY) (bK P Uq),max (bK P YY) (bK P Uq))
def Iw(A:Ad):Sp:=λvs H Q _=>∃(p w:Addr) (i:aW) (P:Plan) (ws:ZA),vs=[.ref p,.ref w]/\Y4/\H w=some VD/\2<ws.length/\ws.getD 1 []∈stepNames P/\ws.getD 2 []∈stepNames P/\
 ∀(H':Hp) (t:Addr),Zd->H t=none->H' t=some (.tup [nat (Yj ws).1,nat (Yj ws).2])->Q Zb3 H'
section
variable {P:Program}{w:World}{K:PySem.W.Frag}{mg:Zy}{base:Heap}{A:Ad}
theorem ai1{f:Addr}{fd:FuncData}(T:Zm)(F:Zo "wrong_newcomer" "wrong_newcomer" De f fd):Z4 Ge QG:=by
 have nd:=RH.nd;refine F.ok RH Zk Zn
 ·obtain⟨n,w,kn,wa,ns,ws,ks,xs,most,rfl,_⟩:=h;rfl
 ·obtain⟨n,w,kn,wa,ns,ws,ks,xs,most,rfl,hn,hw,hk,hx,hl,kx,k⟩:=h;refine⟨_,(ao (bg (bN VZ (Wk ZR aR Z3) Yu rfl) ZsS bp)
   (ao (bg (eR (Z5 (Zeh (aa (dW (own:=[("name",5)]) rfl nd (ZV Yh) (show cB aeW (aA De) _ _ from Yi) ZkU Xe (λ_ _ _ _ _=>(eE VZ W3 ZH rfl))) ai)) Z2)) Zte bp)
   (ak (ay (w8 (bN cS (bW (c6 K) (by rfl) T.cM cU (aa (pv 0) ai)) (pv 1) (bB _)) (bE T.ac9 rfl) aR))))),?_⟩
  unfold jn at k;ext a;refine⟨_,ZdM,_,bQ (j:=1) (kQ hl),J5 hn Yy⟩;cases h1:ns.contains YY with
  |true=>
   rw[af h1]at k;exact aI UP
  |false=>
   rw[ae (by rw[h1];simp)]at k;refine aF ⟨⟨_,ag.of hx⟩,e8 (zs:=xs) (ag.of hx) X0 Zb Xa (λx=>.bl Uu) (λi v x H' hv js s1 R S bc hS=>?_) Va⟩
   ·obtain⟨x',aci,rfl⟩:=Zby;rw[js]at aci;cases aci
    ext a;exact J5 (s1.at hk) ZcS
   ·ext E;refine⟨_,rfl,xs.map λx=>Uu,Zcx,_,rfl,?_⟩;rw[mB];have ea:(xs.all (id∘λx=>Uu))=xs.all λx=>Uu:=rfl;rw[ea];cases h2:(xs.all λx=>Uu)with
    |false=>
     rw[af h2]at k;exact aI Wy
    |true=>
     rw[ae (by rw[h2];simp)]at k;refine aF ⟨ns.length,.inl ⟨_,ag.of (s1.at hn),(aq _).symm⟩,?_⟩;by_cases h3:ns.length=most
     ·rw[af h3]at k;rw[bu h3];exact aI Wy
     ·rw[ae h3]at k;rw[aX h3];exact aF Wy
theorem ak5(i j:Nat):V.int (if(j:Int)<(i:Int)then(j:Int)else(i:Int))=nat (min i j):=by unfold nat;congr 1;split<;>omega
theorem ak8(i j:Nat):V.int (if(j:Int)>(i:Int)then(j:Int)else(i:Int))=nat (max i j):=by unfold nat;congr 1;split<;>omega
theorem ajD{f:Addr}{fd:FuncData}(T:Zm)(F:Zo "pair_of" "pair_of" Jq f fd):Z4 BW (Iw A):=by
 have nd:=Si.nd;refine F.ok Si Zk Zn
 ·ext aj
 ·obtain⟨p,w,i,P,ws,rfl,hP,hw,hl,m1,m2,k⟩:=h;ext c;refine⟨_,(ao (WM (Zk2 Zi7))
   (ao (Xj (Zk2 Zi7))
   (ao (bg Zab (ak (ay (Kk (XY X4)))) bp)
   (ak (ay (Kk (aa (bW (ari rfl) (by rfl) T.KJ aeq (aa (pv 2) (aa (pv 3) ai))) (aa (bW (arj rfl) (by rfl) T.aa2 arO (aa (pv 2) (aa (pv 3) ai))) ai)))))))),?_⟩
  have nn:=Ui;have aT:H i.s=some Zko:=by rw[hP.steps];unfold Vbwbal.stepNames;rw[bz];rfl
  unfold bP at k;simp! [hP.ins,T.bU,nn,kY,cQ aT];refine⟨_,ZdM,_,bQ (j:=1) Zb4,DT aT m1 ?_⟩;simp! [hP.ins,T.bU,nn,kY,cQ aT];refine⟨_,ZdM,_,bQ (j:=2) Zb4,DT aT m2 ?_⟩;ext a;refine⟨_,ZdM,_,Zdw Zb4,?_⟩;simp! [eQ,eW];by_cases h0:ws.getD 0 []=text "after"
  ·rw[af h0]at k;rw[bu h0];refine aI ⟨(by rw[hsz];decide),λt ht=>k _ t (a0 ht) ht au⟩
  ·rw[ae h0]at k;rw[aX h0];refine aF ⟨(by rw[hsz];decide),λt ht=>?_⟩;rw[ak5,ak8];exact k _ t (a0 ht) ht au
end
def toldOf(P:Plan)(w:Bytes):ZX:=if w=text "after"then P.after else if w=text "unlike"then P.unlike else P.alike
def kindB(P:Plan)(ws:ZA)(rb:Bool):Nat:=
 if((stepNames P).contains YY&&(stepNames P).contains Uq)=false then 3
 else if(Yj ws).1=(Yj ws).2 then 4
 else if(Xt Ug).contains (Yj ws)=true then 2
 else if(decide (ws.getD 0 []=text "after")&&rb)=true then 4
 else if(Xt Ug).length =12 then 5 else 0
def QF(A:Ad):Sp:=λvs H Q _=>∃(p w:Addr) (i:aW) (P:Plan) (ws:ZA),vs=[.ref p,.ref w]/\Y4/\ZG/\H w=some VD/\2<ws.length/\
 (ws.getD 0 []=text "after"∨ws.getD 0 []=text "unlike"∨ws.getD 0 []=text "alike")/\
 ∀(H':Hp) (rb:Bool),Zd->(ws.getD 0 []=text "after"->(stepNames P).contains YY=true->(stepNames P).contains Uq=true->(rb=true↔Reach P.after (Yj ws).2 (Yj ws).1))->Q (nat (kindB P ws rb)) H'
theorem agV:text "unlike"≠text "after":=by decide+kernel
theorem agU:text "alike"≠text "after":=by decide+kernel
theorem agT:text "alike"≠text "unlike":=by decide+kernel
theorem agO{A:Ad}{H:Hp}{p:Addr}{i:aW}{P:Plan}(hP:Y4){w:Bytes}(h:w=text "after"∨w=text "unlike"∨w=text "alike"):∃a,bZ H i.d (aE w) Zf3/\U3 (Xt w):=by
 unfold toldOf;rcases h with h|h|h
 ·subst h;rw[af rfl,←qJ];exact⟨i.a,ZkR hP.pairs,hP.after⟩
 ·subst h;rw[ae agV,af rfl,←qJ];exact⟨i.u,Zep hP.pairs,hP.unlike⟩
 ·subst h;rw[ae agU,ae agT,←qJ];exact⟨i.l,Zer hP.pairs,hP.alike⟩
section
variable {P:Program}{w:World}{K:PySem.W.Frag}{mg:Zy}{base:Heap}{A:Ad}
theorem ai0{f:Addr}{fd:FuncData}(T:Zm)(yp:Ztc)(MZ:Zv "comes_after" GO 2 (Rj A))(F:Zo "wrong_pair" "wrong_pair" IT f fd):VM Gd (QF A):=by
 have nd:=RG.nd;refine F.ok RG Zk Zn
 ·ext aj
 ·obtain⟨p,w,i,P,ws,rfl,hP,wf,hw,hl,hk,k⟩:=h;have hu:=gi hr;refine⟨_,(ao (bg (PW.pt (px (Zgj Zcs Yp rfl) (pq (Zgj Zcs Yp rfl)))) Zte bp)
   (ao (WM (az yp hr rfl (ZL Ws)))
   (ao (Xj (jj hu Yp Zcs Z3))
   (ao (bg (WG Zhk Zhk ZO) ZsR bp)
   (ao (bg (bN (aiU hr.units) ZR ZH rfl) ZsS bp)
   (ao (bg (PW.pt (Ka Zab (J_ (Z5 (az MZ hr rfl (ZL (aa Zhk (aa Zhk ai)))) Z2)))) ZsR bp)
   (ak (ay (w8 (bN cS (bW (c6 K) (by rfl) T.cM cU (aa (pv 3) ai)) (bE T.aod rfl) (bB _)) (bE T.ac9 rfl) aR))))))))),?_⟩
  have n1:=Ui;have n2:=Zaq;have aT:H i.s=some Zko:=by rw[hP.steps];unfold Vbwbal.stepNames;rw[bz];rfl
  have Lr:(stepNames P).length <=7:=by unfold Vbwbal.stepNames;rw[aq];exact wf.steps
  unfold kindB at k;have no3:((stepNames P).contains YY&&(stepNames P).contains Uq)=false->Q (V.int 3) H:=λe=>by have:=k H false ZW (λ_ h1 h2=>by rw[h1,h2]at e;cases e);rw[af e]at this;exact this
  simp! [hP.ins,T.bU,n1,kY];refine⟨_,ZdM,_,bQ (j:=1) Zb4,TR aT Yy⟩;cases h1:(stepNames P).contains YY with
  |false=>exact aI (no3 (by rw[h1];rfl))
  |true=>
   ext g;simp! [hP.ins,T.bU,n1,kY];refine⟨_,ZdM,_,bQ (j:=2) Zb4,TR aT Yy⟩;cases h2:(stepNames P).contains Uq with
   |false=>exact aI (no3 (by rw[h1,h2];rfl))
   |true=>
    rw[h1,h2]at k;ext g;have m1:=bx.mp h1;have m2:=bx.mp h2;have bG:∀x∈stepNames P,bK P x<7:=λx hx=>hX (Hc ⟨x,hx,r9 x⟩) Lr;refine⟨p,w,i,P,ws,rfl,hP,hw,hl,m1,m2,λH1 t s1 xF ht=>?_⟩;have fj:=ZbR;have gQ:=s1.at hw;obtain⟨a,Ba,E2⟩:=agO fj hk;have t0:f_ [nat (Yj ws).1,nat (Yj ws).2] 0=some (nat (Yj ws).1):=bQ (j:=0) rfl;have t1:f_ [nat (Yj ws).1,nat (Yj ws).2] 1=some (nat (Yj ws).2):=bQ (j:=1) rfl;have amJ:(Yj ws).2<7:=by
     have q1:=bG _ m1;have q2:=bG _ m2;unfold bP;split
     ·exact q2
     ·show max _ _<7;omega
    have fin:∀(H':Hp),V3->(∀rb,(ws.getD 0 []=text "after"->rb=false)->Q (nat (if(Xt Ug).length =12 then 5 else 0)) H')->∃n,oT K ZY H' n/\if decide ((n:Int)=12)=true then Q (V.int 5) H' else Q (V.int 0) H':=λH' s2 hq=>by
     obtain⟨rs,g1,g2⟩:=E2;have hn:=du g2;refine⟨rs.length,.inl ⟨_,ag.of (s2.at g1),(aq _).symm⟩,?_⟩;have cF:=hq false Z2;by_cases e:(Xt Ug).length =12
     ·rw[af e]at cF;rw[bu (show((rs.length:Nat):Int)=12 by omega)];exact aI cF
     ·rw[ae e]at cF;rw[aX (show¬((rs.length:Nat):Int)=12 by omega)];exact aF cF
    simp! [fj.ins,T.bU,n2,nY];refine⟨_,ZaZ,_,Zdw Zb4,_,Ba,_,ZdN,_,t0,_,ZdN,_,t1,wD,?_⟩;have ed:decide (nat (Yj ws).1=nat (Yj ws).2)=decide ((Yj ws).1=(Yj ws).2):=rZ.mpr (by rw[xm]);rw[ed];obtain⟨rb0,hrb0⟩:∃rb0:Bool,rb0=true↔Reach P.after (Yj ws).2 (Yj ws).1:=by
     ext cQ
     ·exact⟨true,λ_=>h,λ_=>rfl⟩
     ·exact⟨false,λe=>ZbC,λe=>ZdK h⟩
    have Fn:¬(true&&true)=false:=by simp
    by_cases e1:(Yj ws).1=(Yj ws).2
    ·rw[bu e1];have:=ZkF;rw[ae Fn,af e1]at this;exact aI this
    ·rw[aX e1];refine aF ⟨t,a,_,_,_,rfl,rfl,ht,E2,_,rfl,?_⟩;cases e2:(Xt Ug).contains ((Yj ws).1,(Yj ws).2)with
     |true=>
      have:=ZkF;rw[ae Fn,ae e1,af e2]at this;exact aI this
     |false=>
      have e2':¬(Xt Ug).contains (Yj ws)=true:=by show¬(Xt Ug).contains ((Yj ws).1,(Yj ws).2)=true;rw[e2];simp
      refine aF ⟨_,ZaZ,_,Zdw Zb4,eQ _ _,?_⟩;rw[eW];by_cases h0:ws.getD 0 []=text "after"
      ·rw[bu h0];refine aI ⟨_,ZdN,_,t1,_,ZdN,_,t0,p,i,P,_,_,rfl,fj,wf.after,λy hy=>hX (XE Zf6).2 wf.steps,amJ,λH2 rb s2 ij=>⟨rb,rfl,?_⟩⟩;have kk:=k H2 rb YN (λ_ _ _=>ij);rw[ae Fn,ae e1,ae e2',bu h0]at kk;cases rb with
       |true=>
        rw[af (show(true&&true)=true by rfl)]at kk;exact aI kk
       |false=>
        rw[ae (show¬(true&&false)=true by simp)]at kk;exact aF (fin H2 s2 λ_ _=>kk)
      ·rw[aX h0];have kk:=ZkF;rw[ae Fn,ae e1,ae e2',aX h0,ae (show¬(false&&rb0)=true by simp)]at kk;exact aF (fin H1 ZW λ_ _=>kk)
end
end
section
open Vbwbal (splitBy letter digit isName numOf lineOf text stepNames personNames indexOf)
abbrev asr:Zc:=["plan","words"]
theorem RI:aV asr Gf (aA IU):=Zl
def iC(P:Plan)(ws:ZA)(rb:Bool):Nat:=
 if fZ ws=false then 1
 else if ws.getD 0 []=text "role"then jn P.roles 8 YY P.roles []
 else if ws.getD 0 []=text "person"then jn Zio 7 YY P.roles (ws.drop 2)
 else if ws.getD 0 []=text "step"then jn ZiK 7 YY P.roles (ws.drop 3)
 else if ws.getD 0 []=text "most"then(if(personNames P).contains YY=true then 0 else 3)
 else kindB P ws rb
def yP(P:Plan)(ws:ZA)(rb:Bool):Prop:=ws.getD 0 []=text "after"->(stepNames P).contains YY=true->(stepNames P).contains Uq=true->(rb=true↔Reach P.after (Yj ws).2 (Yj ws).1)
def QH(A:Ad):Sp:=λvs H Q _=>∃(p w:Addr) (i:aW) (P:Plan) (ws:ZA),vs=[.ref p,.ref w]/\Y4/\ZG/\H w=some VD/\oM ws/\
 ∀(H':Hp) (rb:Bool),Zd->yP P ws rb->Q (nat (iC P ws rb)) H'
theorem FI{ws:ZA}(h:fZ ws=true):(ws.getD 0 []=text "role"->ws.length=2)/\(ws.getD 0 []=text "person"->2<=ws.length)/\(ws.getD 0 []=text "step"->4<=ws.length)/\(ws.getD 0 []=text "most"->ws.length=3)/\
  (ws.getD 0 []≠text "role"->ws.getD 0 []≠text "person"->ws.getD 0 []≠text "step"->ws.getD 0 []≠text "most"->(ws.getD 0 []=text "after"∨ws.getD 0 []=text "unlike"∨ws.getD 0 []=text "alike")/\ws.length=3):=by
 unfold fZ at h;have d1:text "person"≠text "role":=by decide+kernel
 have d2:text "step"≠text "role":=by decide+kernel
 have d3:text "step"≠text "person":=by decide+kernel
 have d4:text "most"≠text "role":=by decide+kernel
 have d5:text "most"≠text "person":=by decide+kernel
 have d6:text "most"≠text "step":=by decide+kernel
 have d7:¬(text "most"=text "after"∨text "most"=text "unlike"∨text "most"=text "alike"):=by decide+kernel
 refine⟨λe=>?_,λe=>?_,λe=>?_,λe=>?_,λa b c d=>?_⟩
 ·rw[af e,aQ,bX]at h;exact h.1
 ·rw[e,ae d1,af rfl,aQ,bX]at h;exact h.1
 ·rw[e,ae d2,ae d3,af rfl,aQ,bX]at h;exact h.1
 ·rw[e,ae d4,ae d5,ae d6,ae d7,af rfl,aQ,bX]at h;exact h.1
 ·rw[ae a,ae b,ae c]at h;by_cases q:ws.getD 0 []=text "after"∨ws.getD 0 []=text "unlike"∨ws.getD 0 []=text "alike"
  ·rw[af q,aQ,bX]at h;exact⟨q,h.1⟩
  ·rw[ae q,ae d]at h;cases h
section
variable {P:Program}{w:World}{K:PySem.W.Frag}{mg:Zy}{base:Heap}{A:Ad}
theorem ai2{f:Addr}{fd:FuncData}(T:Zm)(MU:Zv "has_form" GI 3 Ra)(Bl:Zv "wrong_newcomer" Ge 1 QG)(Mx:Zv "wrong_pair" Gd 3 (QF A))(F:Zo "wrong_kind" "wrong_kind" IU f fd):YV 4 f fd Gf (QH A):=by
 have nd:=RI.nd;refine F.ok RI Zk Zn
 ·ext aj
 ·obtain⟨p,w,i,P,ws,rfl,hP,wf,hw,ok,k⟩:=h;ext c;refine⟨_,(ao (bg (eR (Z5 (az MU hr rfl (Xl ai)) Z2)) (ak (ay (bE T.an6 rfl))) bp)
   (ao (bg Zab (ak (ay (az Bl hr rfl (Vr (aa (bE T.aob rfl) (Xl (Vr (aa Wa ai)))))))) bp)
   (ao (bg Zab (ak (ay (az Bl hr rfl (Vr (aa (bE T.aoc rfl) (Xl (Vr Zka))))))) bp)
   (ao (bg Zab (ak (ay (az Bl hr rfl (Vr (aa (bE T.aoa rfl) (Xl (Vr Zka))))))) bp)
   (ao (bg Zab (ak (ay (w8 (bN VZ Zcs Yp rfl) aR (bE T.Nc rfl)))) bp)
   (ak (ay (az Mx hr rfl (aa (pv 0) (aa (pv 1) ai)))))))))),?_⟩
  have n1:=Zbs;have n2:=Zbn;have n3:=Ui;ext a7;have pQ:=ok.len;unfold iC at k;obtain⟨rb0,hrb0⟩:∃rb0:Bool,yP P ws rb0:=by
   ext cQ
   ·exact⟨true,λ_ _ _=>⟨λ_=>h,λ_=>rfl⟩⟩
   ·exact⟨false,λ_ _ _=>⟨λe=>ZbC,λe=>ZdK h⟩⟩
  ext a;refine⟨w,ws,rfl,hw,ok,λH1 s1=>?_⟩;have gQ:=s1.at hw;have fj:=ZbR;ext aT;have EW:H1 i.r=some Zey:=fj.roles;have da:H1 i.p=some Zq6:=by rw[fj.persons];unfold Vbwbal.personNames;rw[bz];rfl
  have aT:H1 i.s=some Zko:=by rw[fj.steps];unfold Vbwbal.stepNames;rw[bz];rfl
  refine⟨fZ ws,rfl,?_⟩;cases hf:fZ ws with
  |false=>
   have:=k H1 rb0 s1 hrb0;rw[af hf]at this;exact aI this
  |true=>
   have j4:¬fZ ws=false:=by rw[hf];simp
   ext ba;ext aa;ext af
   ·rw[bu h1];ext e;ext bu;refine⟨ZI,λq hq=>?_⟩;have s2:Yc (Yo q Ye):=a0 hq;refine⟨i.r,w,i.r,q,P.roles,ws,P.roles,[],8,rfl,s2.at EW,s2.at gQ,s2.at EW,au,by rw[f1 h1];decide,ZI,λH3 s3=>?_⟩;have:=ZmN;rw[ae j4,af h1]at this;ext d
   ·rw[aX h1];ext aa;ext P
    ·rw[bu h2];ext e;simp! [fj.ins,T.bU,n1,n2,nX,kZ];refine⟨_,ZaZ,λq hq=>?_⟩;have s2:Yc (Yo q (.lst (ja Zdh (some 2) none))):=a0 hq;refine⟨i.p,w,i.r,q,Zio,ws,P.roles,ws.drop 2,7,rfl,s2.at da,s2.at gQ,s2.at EW,?_,f2 h2,by rw[mz];omega,λH3 s3=>?_⟩
     ·rw[au,Cm];exact Ztf (BC _ 2)
     ·have:=ZmN;rw[ae j4,ae h1,af h2]at this;ext d
    ·rw[aX h2];ext aa;ext Q
     ·rw[bu h3];ext e;simp! [fj.ins,T.bU,n1,n3,nX,kY];refine⟨_,ZaZ,λq hq=>?_⟩;have s2:Yc (Yo q (.lst (ja Zdh (some 3) none))):=a0 hq;refine⟨i.s,w,i.r,q,ZiK,ws,P.roles,ws.drop 3,7,rfl,s2.at aT,s2.at gQ,s2.at EW,?_,by have:=f3 h3;omega,by rw[mz];omega,λH3 s3=>?_⟩
      ·rw[au,Cm];exact Ztf (BC _ 3)
      ·have:=ZmN;rw[ae j4,ae h1,ae h2,af h3]at this;ext d
     ·rw[aX h3];ext aa;ext ah
      ·rw[bu h4];ext e;simp! [fj.ins,T.bU,n2,kZ];refine⟨_,ZaZ,_,bQ (j:=1) (kQ (by have:=f4 h4;omega)),J5 da Yy⟩;have:=k H1 rb0 s1 hrb0;rw[ae j4,ae h1,ae h2,ae h3,af h4]at this;cases e:(personNames P).contains YY with
       |true=>
        rw[af e]at this;exact aI this
       |false=>
        rw[ae (by rw[e];simp)]at this;exact aF this
      ·rw[aX h4];ext g;ext ao;refine⟨p,w,i,P,ws,rfl,fj,wf,gQ,Zb,g1,λH2 rb s2 ij=>?_⟩;have:=k H2 rb YN ij;rw[ae j4,ae h1,ae h2,ae h3,ae h4]at this;ext d
end
end
section
open Vbwbal (text decimal roleAt stepAt MOST)
abbrev asY:Zc:=["numbers"]
theorem Sw:aV asY mr (aA Jy):=Zl
abbrev afh:Zc:=["signs","sign"]
theorem S1:aV afh B4 (aA DB):=Zl
abbrev ae3:Zc:=["plan","roles","role"]
theorem R6:aV ae3 BU (aA Dl):=Zl
abbrev asN:Zc:=["plan","lines","name","roles","most"]
theorem Sd:aV asN Gv (aA Jo):=Zl
abbrev asB:Zc:=["plan","lines","name","roles","word","first","second"]
theorem RU:aV asB Gm (aA Jc):=Zl
section
variable {X:Cx}
theorem Ah{e e2:Expr}{ta:TA}{p pos fQ:Pos}{elts:Ya}{kk:Nat}(K:PySem.W.Frag)(hg:Gl X "zip")(hm:Znm)(ha:PA X [e,e2] ta)(hK:X.K=K:=by rfl)
  (hs:starEach [e,e2] X.env=(false,Yz)::starEach [e2] X.env:=by rfl) (cC:(Xb (starEach [e2] X.env)).any Zh=false:=by rfl):PI X VC ZpW (ug K ta):=by
 subst hK;exact aii hg hm ha hs cC
end
theorem aaM(s:String):V.str ZeU=aE (text s):=by rw[Str.ofString_eq_toList];rfl
def iv(l:ZK):Ze:=l.map V.int
theorem oj(l:ZK):(iv l).length =l.length:=X0
theorem alS(a b:ZK):iv (a++b)=iv a++iv b:=cA
theorem EH(l:Za):nats l=iv (l.map Int.ofNat):=by unfold nats iv;rw[bz];rfl
def kR:Sp:=λvs H Q _=>∃(a:Addr) (xs:Ze),vs=[.ref a]/\H a=some Yq/\xs.length<=2000000/\∀(H':Hp) (l:Addr),Zd->H l=none->H' l=some (.lst (nat xs.length::xs))->Z0 H'
def C6:Sp:=λvs H Q _=>∃(b:Bytes),vs=[aE b]/\b.length<=100000/\∀(H':Hp) (l:Addr),Zd->H l=none->H' l=some (.lst (nats b))->Z0 H'
def Iu(A:Ad):Sp:=λvs H Q _=>∃(p a:Addr) (i:aW) (P:Plan) (rs:Za),vs=[.ref p,.ref a]/\Y4/\H a=some (.lst (nats rs))/\(∀r∈rs,r<P.roles.length)/\rs.length<=100/\
 ∀(H':Hp) (l:Addr),Zd->H l=none->H' l=some (.lst ((rs.map X7).map aE))->Z0 H'
structure lH(H:Hp)(a:Addr)(ws:VT):Prop where
 ex:∃zs:List (Addr×List Bytes),H a=some Wn/\zs.map ZZ=ws/\∀z∈zs,z.1≠a/\H z.1=some ZlE
theorem lH.same{H H':Hp}{a:Addr}{ws:VT}(s:Zd)(h:lH H a ws):lH H' a ws:=by obtain⟨zs,h1,h2,h3⟩:=h.ex;exact⟨zs,UZ,h2,λz hz=>⟨(h3 z hz).1,s.at (h3 z hz).2⟩⟩
theorem lH.push{H H':Hp}{a r:Addr}{ws:VT}{w:ZA}(h:lH H a ws)(s:Zd)(hr:H' r=some (.lst (w.map aE)))(hn:r≠a):
  ∃xs,H' a=some Yq/\xs.length=ws.length/\lH (Wz a (.lst (xs++[.ref r]))) a (ws++[w]):=by
 obtain⟨zs,h1,h2,h3⟩:=h.ex;refine⟨Zb5,UZ,by rw[fT,←h2,aq],⟨zs++[(r,w)],by rw[au,qO];rfl,by rw[cA,h2];rfl,λz hz=>?_⟩⟩;rcases b8.mp hz with q|q
 ·refine⟨(h3 z q).1,?_⟩;rw[ax (h3 z q).1];exact s.at (h3 z q).2
 ·rw[bo.mp q];refine⟨hn,?_⟩;rw[ax hn];exact hr
def tL(P:Plan):VT:=(P.persons.map λx=>text "person"::x.name::x.roles.map X7)++(P.persons.filter λx=>x.most != 99).map λx=>[text "most",x.name,decimal x.most]
def pf(P:Plan):VT:=(P.steps.map λx=>text "step"::x.name::text "by"::x.roles.map X7)++((P.after.map λy=>[text "after",Xi y.1,Xi y.2])++((P.unlike.map λy=>[text "unlike",Xi y.1,Xi y.2])++(P.alike.map λy=>[text "alike",Xi y.1,Xi y.2])))
def QX(A:Ad):Sp:=λvs H Q _=>∃(p:Addr) (i:aW) (P:Plan),vs=[.ref p]/\Y4/\ZG/\∀(H':Hp) (l:Addr),Zd->H l=none->Zch (tL P)->Z0 H'
def QN(A:Ad):Sp:=λvs H Q _=>∃(p:Addr) (i:aW) (P:Plan),vs=[.ref p]/\Y4/\ZG/\∀(H':Hp) (l:Addr),Zd->H l=none->Zch (pf P)->Z0 H'
section
variable {P:Program}{w:World}{K:PySem.W.Frag}{mg:Zy}{base:Heap}{A:Ad}
theorem ajP{f:Addr}{fd:FuncData}(T:Zm)(F:Zo "listed" "listed" Jy f fd):Z4 mr kR:=by
 have nd:=Sw.nd;refine F.ok Sw Zk Zn
 ·obtain⟨a,xs,rfl,_⟩:=h;rfl
 ·obtain⟨a,xs,rfl,ha,hl,k⟩:=h;ext c;refine⟨_,(ak (ay (cR k0 (bh (aa Zaj ai)) Yu))),?_⟩;ext a;refine⟨_,ZlD,X2,λq hq=>⟨xs,?_,Zb,λl cY=>?_⟩⟩
  ·rw[ax (cg ha hq)];exact ha
  ·have s1:ZQ (Zw q (.lst [nat xs.length])):=a0 hq;exact k _ l (bV s1 (s1.free cY)) (s1.free cY) au
theorem akj{f:Addr}{fd:FuncData}(T:Zm)(F:Zo "bytes_of" "bytes_of" DB f fd):Z4 B4 C6:=by
 have nd:=S1.nd;refine F.ok S1 Zk Zn
 ·obtain⟨b,rfl,_⟩:=h;rfl
 ·obtain⟨b,rfl,hl,k⟩:=h;refine⟨_,(ak (ay (dW (own:=[("sign",1)]) rfl nd (Kg Yu) (show cB afh (aA DB) _ _ from Yi) Zes Xe (λ_ _ _ _ _=>(bW arh Vq T.aa1 arN Ws))))),?_⟩;unfold aE;ext a;refine K8 (by rw[dR];omega) Xa nat (λi c H' hc s1 R S hR hS=>?_) (λD H' hD s1 h=>Zfu (by rw[h,filter_all];rfl));ext a;exact⟨rfl,hR rfl _ ZW⟩
theorem ajo{f:Addr}{fd:FuncData}(T:Zm)(F:Zo "role_names" "role_names" Dl f fd):Z4 BU (Iu A):=by
 have nd:=R6.nd;refine F.ok R6 Zk Zn
 ·obtain⟨p,a,i,P,rs,rfl,_⟩:=h;rfl
 ·obtain⟨p,a,ix,P,rs,rfl,hP,ha,dv,hl,k⟩:=h;have n1:=Zbs;refine⟨_,(ak (ay (dW (own:=[("role",2)]) rfl nd (ZV ZE) (show cB ae3 (aA Dl) _ _ from Yi) Zbh Xe (λ_ _ _ _ _=>(ZaU ZR Z3))))),?_⟩;ext a;refine⟨UB,e8 (zs:=rs) Xg XF Zb Xa (λr=>aE (X7 r)) Zbd (λD H' hD s1 h=>Zfu (by rw[h,filter_all,bz];rfl))⟩;ext o
  have fj:=ZbR;have uk:=dv z Xv;ext bu;refine⟨_,ag.of fj.roles,aE (X7 z),bQ ?_,bc rfl _ ZW⟩;unfold roleAt;rw[cx,jL,fP uk];rfl
theorem ajx{f:Addr}{fd:FuncData}(T:Zm)(ym:Zsi)(F:Zo "person_lines" "person_lines" Jo f fd):X5 Gv (QX A):=by
 have nd:=Sd.nd;refine F.ok Sd Zk Zn
 ·ext ar
 ·ext ap;ext c;have n1:=Zbn;have n2:=Zhj;have n3:=Zh5;have jx:=wf.persons;refine⟨_,(ao (W2 Wa)
   (ao (dN dF rfl (Ah K rfl T.tR Zgb) Zck (ak (dU (Wo ZE (aa (cR k0 (bh (aa cW Y7)) ZsT) ai)))))
   (ao (dN dF rfl (Ah K rfl T.tR Zgb) (i4 2 K rfl (dn VO (dn WT iZ))) (ak (bg (bN xh Yh (bE T.ac7 rfl) ZO) (ak (dU (Wo ZE (aa (bh (aa cW (XY (aa (w9 ara Vq T.aaY arK ZaD) ai)))) ai)))) bp)))
   (ak (ay (pv 1)))))),?_⟩
  ext b8;obtain⟨rs,gS,gR⟩:=id hP.pr;simp! [fj.ins,T.bU,n1,n2,kZ,DW];refine⟨_,ag.of fj.persons,_,ag.of (s1.at gS),?_⟩;obtain⟨Pv,aB⟩:∃Pv:Nat->L2.St->Hp->Prop,∀m σ H',YK H'↔∃(v2 v3 v4:ZM),σ=[some Z7,some Z6,v2,v3,v4]/\Zd/\Zch ((P.persons.take m).map λx=>text "person"::x.name::x.roles.map X7):=Yg;refine Bq ZgV W9 Zk1 Pv ((Zi _).mpr ⟨none,none,none,rfl,s1,ZsG⟩) (λi σ H' _ hv=>let⟨_,_,_,_,s2,_⟩:=(Zi _).mp hv;⟨ag.of (hP.same s2).persons,ag.of (s2.at gS)⟩) ?_ ?_
  ·intro m x y Tp σ H2 hx hy hv hTp;ext cV;ext bM
   have jw:=bI da;have s3:Xx ZgP:=Za7;have qM:=Zfx;ext r;ext ck;have s4:Xx (upd ZgP q ZqF):=bV s3 (s3.free hq);have jR:=s2.trans s4;refine⟨p,ra,ix,P,pe.roles,rfl,hP.same jR,jR.at eS,wf.qQ pe jw,by have:=wf.mO pe jw;omega,λH5 l5 s5 acH jz=>?_⟩;have xK:H5 q=some ZqF:=s5.at au;have h8:=wf.mO pe jw;ext b0;have gz:Xx (upd H5 r (.lst ([V.str "person",aE pe.name]++(pe.roles.map X7).map aE))):=bV ji (ji.free gm);have fG:r≠l:=λe=>by obtain⟨zs,cE,_⟩:=(hW.same ji).ex;rw[e,cE]at gm;cases gm
   obtain⟨xs,e1,e2,e3⟩:=hW.push (r:=r) (w:=text "person"::pe.name::pe.roles.map X7) gz (by rw[au];rfl) fG;have hm:=lh da;refine⟨xs,e1,?_,(Zi _).mpr ⟨_,_,_,rfl,ZsB,?_⟩⟩
   ·rw[e2,aq,eY];omega
   ·rw[dA da,cA];exact e3
  ·intro σ H2 hv;ext cV;rw[aq,eg]at hW;have gX:=Zf1;simp! [gX.ins,T.bU,n1,n3,kZ,Ac];refine⟨_,ag.of gX.persons,_,ag.of gX.eF,?_⟩;obtain⟨W1,uI⟩:∃W1,W1=P.persons.map λx=>text "person"::x.name::x.roles.map X7:=Zs;rw[←uI]at hW;have anK:W1.length<=7:=by rw[uI,aq];exact jx
   obtain⟨Pw,cj⟩:∃Pw:Nat->L2.St->Hp->Prop,∀m σ H',Pw m σ H'↔∃(v2 v3 v4:ZM),σ=[some Z7,some Z6,v2,v3,v4]/\Zd/\Zch (W1++((P.persons.take m).filter λx=>x.most != 99).map λx=>[text "most",x.name,decimal x.most]):=Yg;refine Bq ZgV Zkg (by rw[aq,aq]) Pw ((Yl _).mpr ⟨v2,v3,v4,rfl,s2,by simpa using hW⟩) (λi σ H' _ hv=>let⟨_,_,_,_,s3,_⟩:=(Yl _).mp hv;⟨ag.of (hP.same s3).persons,ag.of (hP.same s3).eF⟩) ?_ ?_
   ·intro m x y Tp σ H3 hx hy hv hTp;ext cW;obtain⟨pe,da,rfl⟩:=UD;obtain⟨pe',AW,rfl⟩:=Wr;rw[da]at AW;cases AW
    have s4:Wj Zph:=Za7;ext r;have BA:((P.persons.take XG).filter λx=>x.most != 99).map Zpp=((P.persons.take m).filter λx=>x.most != 99).map Zpp++(if pe.most=99 then []else [[text "most",pe.name,decimal pe.most]]):=by rw[dA da,vv,cA];congr 1;by_cases e:pe.most=99<;>simp[e]
    by_cases e99:pe.most=99
    ·have NJ:((pe.most:Nat):Int)=99:=by omega
     simp! [NJ,qy];refine(Yl _).mpr ⟨_,_,_,rfl,ZfC,?_⟩;rw[BA,af e99,fc];exact i8.same s4
    ·have NJ:¬((pe.most:Nat):Int)=99:=by omega
     obtain⟨zs,cE,_⟩:=(i8.same s4).ex;have am1:((pe.most:Int)).natAbs.log2 <1920:=by have:=wf.eF pe (bI da);have h2:((pe.most:Int)).natAbs =pe.most:=rfl;rw[h2];exact Nat.lt_of_le_of_lt (Nat.log2_le_self _) Zb
     simp! [NJ,vE,cQ cE];refine⟨am1,X2,λr gm=>?_⟩;have jY:H3 r=none:=s4.free gm;obtain⟨wl,me⟩:∃wl,wl=[text "most",pe.name,decimal pe.most]:=Zs;have ewl:[V.str (Str.ofString "most"),aE pe.name,V.str (Str.ofString (toString (pe.most:Int)))]=wl.map aE:=by rw[me,aaM,aaM];rfl
     rw[ewl];have s5:Wj (upd Zph r (.lst (wl.map aE))):=bV s4 jY;have fG:r≠l:=λe=>by rw[e,cE]at gm;cases gm
     obtain⟨xs,e1,e2,e3⟩:=i8.push (r:=r) (w:=wl) s5 au fG;have hm:=lh da;refine⟨xs,e1,?_,(Yl _).mpr ⟨_,_,_,rfl,bV (s3.trans s5) hl (gf e1),?_⟩⟩
     ·rw[e2,bS,aq];have h1:=Zj6 (P.persons.take m);rw[eY]at h1;omega
     ·rw[BA,ae e99,←eC,←me];exact e3
   ·ext B;ext cW;rw[aq,eg,uI]at i8;ext a;exact k H3 l s3 hl i8
theorem Qw{P:Plan}{j:Nat}(h:j<P.steps.length):(P.steps.map λx=>Zdv)[j]? =some (aE (Xi j)):=by unfold stepAt;rw[cx,fP h];rfl
theorem aje{f:Addr}{fd:FuncData}(T:Zm)(ym:Zsi)(F:Zo "step_lines" "step_lines" Jc f fd):X5 Gm (QN A):=by
 have nd:=RU.nd;refine F.ok RU Zk Zn
 ·ext ar
 ·ext ap;ext j;have n1:=Ui;have n2:=Zhu;have n3:=Zaq;have jx:=wf.steps;refine⟨_,(ao (W2 Wa)
   (ao (dN dF rfl (Ah K rfl T.tR Zgb) Zck (ak (dU (Wo ZE (aa (cR k0 (bh (aa cW (XY (aa cW ai)))) ZsT) ai)))))
   (ao (dN dF rfl (aij K (DY T.adb rfl)) WT (ak (dN dF rfl (ZV (jj hu Yp Yh Z3)) Zo9 (ak (dU (Wo ZE (aa (bh (aa Yh (aa (ZaU W3 Z3) (aa (ZaU Za4 Z3) ai)))) ai)))))))
   (ak (ay (pv 1)))))),?_⟩
  ext b8;obtain⟨rs,gS,gR⟩:=id hP.sr;simp! [fj.ins,T.bU,n1,n2,kY,DV];refine⟨_,ag.of fj.steps,_,ag.of (s1.at gS),?_⟩;obtain⟨Pv,aB⟩:∃Pv:Nat->L2.St->Hp->Prop,∀m σ H',YK H'↔∃(v2 v3:ZM),σ=[some Z7,some Z6,v2,v3,none,none,none]/\Zd/\Zch ((P.steps.take m).map λx=>text "step"::x.name::text "by"::x.roles.map X7):=Yg;refine Bq Zkt W9 Zk1 Pv ((Zi _).mpr ⟨none,none,rfl,s1,ZsG⟩) (λi σ H' _ hv=>let⟨_,_,_,s2,_⟩:=(Zi _).mp hv;⟨ag.of (hP.same s2).steps,ag.of (s2.at gS)⟩) ?_ ?_
  ·intro m x y Tp σ H2 hx hy hv hTp;obtain⟨v2,v3,rfl,s2,hW⟩:=(Zi _).mp hv;ext bM
   have jw:=bI da;have s3:Xx ZgP:=Za7;ext r;ext ck;have s4:Xx (upd ZgP q Zpq):=bV s3 (s3.free hq);have jR:=s2.trans s4;refine⟨p,ra,ix,P,pe.roles,rfl,hP.same jR,jR.at eS,wf.wu pe jw,by have:=wf.qK pe jw;omega,λH5 l5 s5 acH jz=>?_⟩;have xK:H5 q=some Zpq:=s5.at au;have h8:=wf.qK pe jw;ext b0;have gz:Xx (upd H5 r (.lst ([V.str "step",aE pe.name,.str "by"]++(pe.roles.map X7).map aE))):=bV ji (ji.free gm);have fG:r≠l:=λe=>by obtain⟨zs,cE,_⟩:=(hW.same ji).ex;rw[e,cE]at gm;cases gm
   obtain⟨xs,e1,e2,e3⟩:=hW.push (r:=r) (w:=text "step"::pe.name::text "by"::pe.roles.map X7) gz (by rw[au];rfl) fG;have hm:=lh da;refine⟨xs,e1,?_,(Zi _).mpr ⟨_,_,rfl,ZsB,?_⟩⟩
   ·rw[e2,aq,eY];omega
   ·rw[dA da,cA];exact e3
  ·intro σ H2 hv;obtain⟨v2,v3,rfl,s2,hW⟩:=(Zi _).mp hv;rw[aq,eg]at hW;obtain⟨W1,uI⟩:∃W1,W1=P.steps.map λx=>text "step"::x.name::text "by"::x.roles.map X7:=Zs;rw[←uI]at hW;have anK:W1.length<=7:=by rw[uI,aq];exact jx
   obtain⟨kd,A8⟩:∃kd:List (Str×List Xr),kd=[(("after":Str),P.after),(("unlike":Str),P.unlike),(("alike":Str),P.alike)]:=Zs;obtain⟨pw,ot⟩:∃pw:Str×List Xr->VT,pw=λz=>z.2.map λy=>[z.1.cps.toList,Xi y.1,Xi y.2]:=Zs;have Fe:∀z∈kd,z.2.length<=12/\(∀y∈z.2,y.1<P.steps.length/\y.2<P.steps.length):=λz hz=>by
    rw[A8]at hz;rcases aJ.mp hz with e|hz
    ·rw[e];exact⟨wf.after,λy hy=>XE Zf6⟩
    rcases aJ.mp hz with e|hz
    ·rw[e];exact⟨wf.unlike,λy hy=>XE (.inr Zf6)⟩
    ·rw[bo.mp hz];exact⟨wf.alike,λy hy=>XE ZhZ⟩
   have hkg:∀z∈kd,∃a,(∀H',Zd->bZ H' ix.d (.str z.1) Zf3/\g8 H' a z.2):=λz hz=>by
    rw[A8]at hz;rcases aJ.mp hz with e|hz
    ·rw[e];exact⟨ix.a,λH' s'=>⟨bZ.k (k:=Sum.inr "after") (hP.same s').pairs,(hP.same s').after⟩⟩
    rcases aJ.mp hz with e|hz
    ·rw[e];exact⟨ix.u,λH' s'=>⟨bZ.k (k:=Sum.inr "unlike") (hP.same s').pairs,(hP.same s').unlike⟩⟩
    ·rw[bo.mp hz];exact⟨ix.l,λH' s'=>⟨bZ.k (k:=Sum.inr "alike") (hP.same s').pairs,(hP.same s').alike⟩⟩
   have ekd:[V.str "after",V.str "unlike",V.str "alike"]=kd.map λz=>V.str z.1:=by rw[A8];rfl
   have amE:∀ks:List (Str×List Xr),(∀z∈ks,z∈kd)->(ks.flatMap pw).length <=12*ks.length:=λks=>by
    induction ks with
    |nil=>intro _;exact ZI
    |cons z r ih=>
     intro h;have h1:=ih λy hy=>h y ZdI;have h2:=(Fe z (h z aY)).1;rw[iR,bS,bb];have:(pw z).length =z.2.length:=by rw[ot,aq]
     omega
   have au8:kd.length=3:=by rw[A8];rfl
   ext a;refine⟨⟨_,T.lU H2⟩,?_⟩;obtain⟨Pw,cj⟩:∃Pw:Nat->L2.St->Hp->Prop,∀m σ H',Pw m σ H'↔∃(v4 v5 v6:ZM),σ=[some Z7,some Z6,v2,v3,v4,v5,v6]/\Zd/\Zch (W1++(kd.take m).flatMap pw):=Yg;refine aow (kd.map λz=>V.str z.1) Pw ((Yl _).mpr ⟨none,none,none,rfl,s2,by simpa using hW⟩) (λi σ H' _ _=>by rw[←ekd];exact T.lU H') ?_ ?_
   ·ext az;ext cY;obtain⟨z,hz,rfl⟩:=Wr;have cO:=Xv;obtain⟨a,hag⟩:=hkg z cO;obtain⟨auN,amh⟩:=Fe z cO;have Bh:=hP.same s3;obtain⟨_,rs2,Fo,EV⟩:=hag H ZfA;have dg:=(hag H3 s3).1;simp! [Bh.ins,T.bU,n3,nY];refine⟨_,dg,a,rfl,⟨_,ag.of (s3.at Fo)⟩,?_⟩;obtain⟨Pu,Bg⟩:∃Pu:Nat->L2.St->Hp->Prop,∀n σ H',Pu n σ H'↔∃(v5 v6:ZM),σ=[some Z7,some Z6,v2,v3,some (.str z.1),v5,v6]/\Zd/\Zch (W1++((kd.take m).flatMap pw++(z.2.take n).map λy=>[z.1.cps.toList,Xi y.1,Xi y.2])):=Yg;refine gH (rs2.map V.ref) Pu ((Bg _ _ _).mpr ⟨v5,v6,rfl,s3,by simpa using i8⟩) (λi σ H' _ hv=>let⟨_,_,_,s4,_⟩:=(Bg _ _ _).mp hv;ag.of (s4.at Fo)) ?_ ?_
    ·intro n y σ H4 hy hv;ext cZ;obtain⟨r,iG,rfl⟩:=Wr;obtain⟨pp,kD,eS⟩:=gN EV iG;have xO:=amh pp (bI kD);have yb:=hP.same s4;refine⟨r,_,rfl,bM.of (s4.at eS),rfl,?_⟩;obtain⟨zs,cE,_⟩:=lC.ex;simp! [cQ cE,yb.ins,T.bU,n1,kY];refine⟨_,ZnN,_,bQ (Qw xO.1),_,ZnN,_,bQ (Qw xO.2),X2,λq hq=>?_⟩;have s5:ah H4 (U7 q (.lst [.str z.1,aE (Xi pp.1),aE (Xi pp.2)])):=a0 hq;have hql:q≠l:=λe=>by rw[e,cE]at hq;cases hq
     obtain⟨xs,e1,e2,e3⟩:=lC.push (r:=q) (w:=[z.1.cps.toList,Xi pp.1,Xi pp.2]) s5 (by rw[au];rfl) hql;have hn:=lh kD;have pR:(kd.take m).length <=3:=by rw[eY];omega
     have rP:=amE (kd.take m) λy hy=>Cj hy;refine⟨xs,e1,?_,(Bg _ _ _).mpr ⟨_,_,rfl,?_,?_⟩⟩
     ·rw[e2,bS,bS,aq,eY];omega
     ·exact bV ZaA hl (gf e1)
     ·rw[dA kD,cA,←eC,←eC];rw[←eC]at e3;exact e3
    ·intro σ H4 hv;ext cZ;rw[aq,du EV,eg]at lC;refine(Yl _).mpr ⟨_,_,_,rfl,s4,?_⟩;rw[dA hz,oQ];simp only[iR,Pb,fc];rw[ot]at lC⊢;exact lC
   ·ext B;ext cY;rw[aq,eg]at i8;ext a;refine k H3 l s3 hl ?_;have:W1++kd.flatMap pw=pf P:=by unfold pf;rw[uI,A8,ot];simp only[iR,Pb,fc];rfl
    rw[←this];exact i8
end
end
section
open Vbwbal (text decimal roleAt stepAt MOST)
abbrev ae0:Zc:=["plan","lines","name","text","words"]
theorem RX:aV ae0 Gp (aA Di):=Zl
def atU(ws:ZA):Bytes:=Vbwbal.line ws
theorem ahA(P:Plan):Vbwbal.shown P=(((P.roles.map λn=>[text "role",n])++tL P)++pf P).flatMap Vbwbal.line:=by
 unfold Vbwbal.shown tL pf Vbwbal.pairLines;simp only[oQ,List.flatMap_map,eC];congr 1;congr 1;congr 1
 induction P.persons with
 |nil=>rfl
 |cons x r ih=>
  rw[iR,jf,ih];by_cases e:x.most=99
  ·have:¬(x.most != 99)=true:=by simp[e]
   rw[af (show x.most=MOST from e),ae this];rfl
  ·have:(x.most != 99)=true:=by simpa using e
   rw[ae (show¬x.most=MOST from e),af this,iR]
def QP(A:Ad):Sp:=λvs H Q _=>∃(p:Addr) (i:aW) (P:Plan),vs=[.ref p]/\Y4/\ZG/\∀(H':Hp) (l:Addr),Zd->H l=none->H' l=some (.lst (nats (Vbwbal.shown P)))->(Vbwbal.shown P).length <=100000->Z0 H'
theorem adm:∀(r:ZA) (w:Bytes),ZsF w=w++r.flatMap λx=>32::x
 |[],w=>by simp
 |x::r,w=>by rw[vq,adm r,iR];simp
theorem TL.ahc(a b:Str):a++b=⟨(TL.tl a++TL.tl b).toArray⟩:=by rw[←TL.CL]
theorem Lc:∀(w:Bytes) (r:ZA),TL.mX [32] (w::r)=w++r.flatMap λx=>32::x
 |w,[]=>by simp[TL.mX]
 |w,x::r=>by show w++([32]++TL.mX [32] (x::r))=_;rw[Lc x r,iR];rfl
theorem abo(ws:ZA)(h:ws≠[]):Vbwbal.line ws=TL.mX [32] ws++[10]:=by
 cases ws with
 |nil=>exact absurd rfl h
 |cons w r=>
  show ZsF w++[10]=_;rw[adm,Lc]
theorem aql:∀n,n<=99->(decimal n).length <=2:=by
 have h:((List.range 100).all λn=>decide ((decimal n).length <=2))=true:=by decide+kernel
 intro n hn;have:=dh.mp h n ZfB;exact lX this
structure zh(ws:ZA):Prop where
 ne:ws≠[]
 len:ws.length<=11
 each:∀w∈ws,w.length<=12
theorem ado:∀(r:ZA),(∀w∈r,w.length<=12)->(r.flatMap λx=>32::x).length <=13*r.length
 |[],_=>ZI
 |w::r,h=>by have ih:=ado r λx hx=>h x ZaS;have h1:=h w aY;rw[iR,bS,bb,bb];omega
theorem zh.line{ws:ZA}(h:zh ws):(Vbwbal.line ws).length <=150:=by
 rw[abo ws h.ne];cases ws with
 |nil=>exact absurd rfl h.ne
 |cons w r=>
  rw[Lc,bS,bS];have h1:=ado r λx hx=>h.each x ZaS;have h2:=h.each w aY;have h3:=h.len;rw[bb]at h3;simp only[O8];omega
theorem TK{P:Plan}(wf:ZG)(r:Nat):(X7 r).length <=12:=by
 unfold roleAt;rw[jL];cases e:P.roles[r]? with
 |none=>exact ZI
 |some n=>exact wf.tq n (bI e)
theorem Qx{P:Plan}(wf:ZG)(r:Nat):(Xi r).length <=12:=by
 unfold stepAt;cases e:P.steps[r]? with
 |none=>exact ZI
 |some n=>exact wf.sS n (bI e)
def r_(P:Plan):VT:=((P.roles.map λn=>[text "role",n])++tL P)++pf P
theorem Nu{P:Plan}(wf:ZG)(t:Bytes)(ht:t.length<=12)(ps:ZX){ws:ZA}(h:ws∈ps.map λy=>[t,Xi y.1,Xi y.2]):zh ws:=by
 obtain⟨y,_,rfl⟩:=UO;refine Zlj;rcases aJ.mp hw with e|hw
 ·rw[e];exact ht
 rcases aJ.mp hw with e|hw
 ·rw[e];exact Qx wf _
 ·rw[bo.mp hw];exact Qx wf _
theorem adt{P:Plan}(wf:ZG):∀ws∈r_ P,zh ws:=by
 intro ws h;unfold r_ tL pf at h;rcases b8.mp h with h|h
 ·rcases b8.mp h with h|h
  ·obtain⟨n,hn,rfl⟩:=UO;refine Zlj;rcases aJ.mp hw with e|hw
   ·rw[e];decide
   ·rw[bo.mp hw];exact wf.tq n hn
  ·rcases b8.mp h with h|h
   ·ext bt;have h8:=wf.mO x hx;refine Zrm;rcases aJ.mp hw with e|hw
    ·rw[e];decide
    rcases aJ.mp hw with e|hw
    ·rw[e];exact wf.pC x hx
    ·ext c3
   ·ext bt;have hx:=(bD.mp hx).1;refine Zlj;rcases aJ.mp hw with e|hw
    ·rw[e];decide
    rcases aJ.mp hw with e|hw
    ·rw[e];exact wf.pC x hx
    ·rw[bo.mp hw];have:=aql x.most (wf.eF x hx);omega
 ·rcases b8.mp h with h|h
  ·ext bt;have h8:=wf.qK x hx;refine Zrm;rcases aJ.mp hw with e|hw
   ·rw[e];decide
   rcases aJ.mp hw with e|hw
   ·rw[e];exact wf.sS x hx
   rcases aJ.mp hw with e|hw
   ·rw[e];decide
   ·ext c3
  ·rcases b8.mp h with h|h
   ·exact Zni
   rcases b8.mp h with h|h
   ·exact Zni
   ·exact Zni
theorem aex{P:Plan}(wf:ZG):(r_ P).length <=100:=by unfold r_ tL pf;have h1:=wf.roles;have h2:=wf.persons;have h3:=wf.steps;have h4:=wf.after;have h5:=wf.unlike;have h6:=wf.alike;have h7:=Zj6 P.persons;simp only[bS,aq];omega
theorem K3:∀(W:VT),(∀ws∈W,zh ws)->(W.flatMap Vbwbal.line).length <=150*W.length
 |[],_=>ZI
 |w::r,h=>by have ih:=K3 r λx hx=>h x ZaS;have h1:=(h w aY).line;rw[iR,bS,bb];omega
section
variable {P:Program}{w:World}{K:PySem.W.Frag}{mg:Zy}{base:Heap}{A:Ad}
theorem ajh{f:Addr}{fd:FuncData}(T:Zm)(rY:Zv "bytes_of" B4 1 C6)(MK:Zv "person_lines" Gv 2 (QX A))(ME:Zv "step_lines" Gm 2 (QN A))
  (F:Zo "shown_text" "shown_text" Di f fd):VM Gp (QP A):=by
 have nd:=RX.nd;refine F.ok RX Zk Zn
 ·ext ar
 ·ext ap;ext j;have n1:=Zbs;have h8:=wf.roles;refine⟨_,(ao (W2 (cR k0 (cR k0 (dW (own:=[("name",2)]) rfl nd (ZV Yp) (show cB ae0 (aA Di) _ _ from Yi) Zbh Xe (λ_ _ _ _ _=>(bh (aa cW Y7)))) (az MK hr rfl (ZL ai))) (az ME hr rfl (ZL ai))))
   (ao (Xj Wa)
   (ao (dN dF rfl (ZV ZE) WT (ak (dU (Uj ZH (aa (az rY hr rfl (aa (cR aiW (aat cW Yh) cW) ai)) ai)))))
   (ak (ay (pv 3)))))),?_⟩
  simp! [hP.ins,T.bU,n1,nX];refine⟨⟨_,Znp⟩,abB (zs:=P.roles) Znp X0 Zb (λn=>[text "role",n].map aE) (λi x z H1 hx hz s1 R S hR=>?_) (λD H1 hD s1 rH=>?_)⟩
  ·obtain⟨z',br,rfl⟩:=UD;ext O
   ext a;exact⟨X2,λq hq=>hR q hq⟩
  ·obtain⟨rs,Mm,dv,_⟩:=rH;obtain⟨zr,Nw,adw,uk⟩:=JU dv;refine⟨p,ix,P,rfl,ZbR,wf,λH2 l2 s2 LU uH=>?_⟩;obtain⟨zp,bH,ezp,rC⟩:=uH.ex;have auK:zr.length<=8:=by have:=Zaw adw;rw[aq]at this;omega
   have auL:zp.length<=14:=by have:=Zaw ezp;rw[aq]at this;have h2:=wf.persons;have h7:=Zj6 P.persons;unfold tL at this;rw[bS,aq,aq]at this;omega
   have yi:H2 D=some WQ:=s2.at Mm;refine⟨D,rfl,l2,rfl,_,yi,_,bH,by rw[aq,Nw,aq,fT];omega,λp1 ow=>?_⟩;have s3:Xx (YD p1 (.lst (rs.map V.ref++refs zp))):=a0 ow;ext S;refine⟨p,ix,P,rfl,hP.same cG,wf,λH4 l4 s4 ox lC=>?_⟩;obtain⟨zt,ik,ezt,hzt⟩:=lC.ex;have auI:zt.length<=43:=by have:=Zaw ezt;rw[aq]at this;have h3:=wf.steps;have h4:=wf.after;have h5:=wf.unlike;have h6:=wf.alike;unfold pf at this;simp only[bS,aq]at this;omega
   refine⟨l4,rfl,_,s4.at au,_,ik,by rw[bS,aq,Nw,aq,fT,fT];omega,λp2 dP=>?_⟩;refine⟨ZI,λp3 jZ=>?_⟩;obtain⟨zs,jq⟩:∃zs:List (Addr×List Bytes),zs=(zr.map λz=>(z.1,[text "role",z.2]))++zp++zt:=Zs;have ap9:(rs.map V.ref++refs zp)++refs zt=refs zs:=by rw[jq,qO,qO,Nw];congr 2;unfold refs;rw[bz,bz];rfl
   have Ny:zs.map ZZ=r_ P:=by unfold r_;rw[jq,cA,cA,ezp,ezt,adw,bz,bz];rfl
   rw[ap9]at jZ⊢;have s_:=ZfC;have s5:ah H4 (U7 p2 Wn):=a0 dP;have dB:∀z∈zs,H4 z.1=some ZlE:=λz hz=>by
    rw[jq]at hz;rcases b8.mp hz with hz|hz
    ·rcases b8.mp hz with hz|hz
     ·obtain⟨y,hy,rfl⟩:=aO.mp hz;exact s_.at (s2.at (uk y hy))
     ·exact s_.at (rC z hz).2
    ·exact(hzt z hz).2
   have wK:=(s1.trans s2).trans s_;have ou:H p3=none:=wK.free (s5.free jZ);have s6:ZQ (Zhp Ye):=bV (wK.trans s5) ou;have gz:ah H4 (Zhp Ye):=bV s5 (s5.free jZ);have acv:p2≠p3:=λe=>by rw[←e,au]at jZ;cases jZ
   have LD:Zhp Ye p2=some Wn:=by rw[ax acv,au]
   obtain⟨H6,rV⟩:∃H6,H6=Zhp Ye:=Zs;rw[←rV]at s6 gz LD⊢;have amK:H6 p3=some Ye:=by rw[rV];exact au
   have fin:∀z∈zs,zh z.2:=λz hz=>adt wf _ (by rw[←Ny];exact Zbj);have auJ:zs.length<=100:=by have:=aex wf;rw[←Ny,aq]at this;exact this
   obtain⟨Pv,aB⟩:∃Pv:Nat->L2.St->Hp->Prop,∀m σ H',YK H'↔∃(v2 v4:ZM),σ=[some Z7,some (.ref p2),v2,some (.ref p3),v4]/\Zd/\H' p2=some Wn/\(∀z∈zs,H' z.1=some ZlE)/\H' p3=some (.lst (nats (((zs.take m).map ZZ).flatMap Vbwbal.line))):=Yg;have pL:∀z∈zs,z.1≠p3:=λz hz=>cg (dB z hz) (s5.free jZ);refine⟨⟨_,ag.of LD⟩,gH Zb5 Pv ((Zi _).mpr ⟨_,none,rfl,s6,LD,λz hz=>gz.at (dB z hz),amK⟩) (λi σ H' _ hv=>let⟨_,_,_,_,h2,_⟩:=(Zi _).mp hv;ag.of h2) ?_ ?_⟩
   ·intro m y σ H7 hy hv;ext cG;ext bl;have cO:=Xv;have fz:=fin z cO;have hlz:=fz.line;have jv:=K3 Zlk (λws uo=>by obtain⟨z',br,rfl⟩:=aO.mp uo;exact fin z' (Cj br))
    rw[aq,eY]at jv;have hm:=lh hz;have adE:=abo z.2 fz.ne;simp! [cQ uO];obtain⟨ys,i6⟩:∃ys:List Str,ys=z.2.map λb=>⟨b.toArray⟩:=Zs;have qf:ys.map V.str=z.2.map aE:=by rw[i6,bz];rfl
    have Nz:ys.map TL.tl=z.2:=by rw[i6,bz];exact Ck (λb=>by show b.toArray.toList=b;simp) _
    have e32:TL.tl (Str.ofString " ")=[32]:=by decide+kernel
    have BB:TL.tl Uc=[10]:=by decide+kernel
    have hS:TL.tl (ZkB ys)=TL.mX [32] z.2:=by rw[TL.join_eq,TL.HX,e32,Nz]
    have hSn:V.str (ZkB ys++Str.ofString "\n")=aE (Vbwbal.line z.2):=by rw[adE,←hS,←BB];exact cb V.str (TL.ahc _ _)
    have cX:(ZkB ys).length <=150:=by rw[TL.mV,hS];rw[adE,bS]at hlz;omega
    have amt:∀zz:List Bytes,(∀w∈zz,w.length<=12)->(((zz.map λb=>(⟨b.toArray⟩:Str)).map λx=>x.length).sum)<=12*zz.length:=λzz=>by
     induction zz with
     |nil=>intro _;exact ZI
     |cons a r ih=>
      intro h;have h1:=ih λw hw=>h w (ZD hw);have h2:=h a aY;have h3:(⟨a.toArray⟩:Str).length =a.length:=by show a.toArray.size=_;simp
      rw[cw,cw,afq,bb,h3];omega
    refine⟨ys,.inl (ag.of (by rw[qf];exact Fu z cO)),?_,?_,?_⟩
    ·have h1:=amt z.2 fz.each;rw[←i6]at h1;have h2:ys.length=z.2.length:=by rw[i6,aq]
     have h3:=fz.len;rw[show(Str.ofString " ").length =1 by decide+kernel];omega
    ·rw[show(Str.ofString "\n").length =1 by decide+kernel,hsz];omega
    ·rw[hSn];refine⟨_,rfl,Zb,λH8 l8 s8 acE ly=>⟨l8,rfl,_,s8.at uO,_,ly,by rw[bA,bA];omega,(Zi _).mpr ⟨_,_,rfl,bV (s7.trans s8) ou (gf (s8.at uO)),?_,λz' br=>?_,?_⟩⟩⟩
     ·rw[ax acv];exact s8.at h72
     ·rw[ax (pL z' br)];exact s8.at (Fu z' br)
     ·rw[au,←lg,dA hz,cA,oQ];simp
   ·intro σ H7 hv;ext cG;rw[fT,eg,Ny]at uO;have e:(r_ P).flatMap Vbwbal.line=Vbwbal.shown P:=(ahA P).symm;rw[e]at uO;ext a;refine k H7 p3 s7 ou uO ?_;rw[←e];have:=K3 (r_ P) (adt wf);have:=aex wf;omega
end
end
section
open Vbwbal (signer load goesWith fits unsigned choiceOf signed isSign signerOf textAt amendments)
abbrev atk:Zc:=["self","kind","target","person","text"]
theorem Tf:aV atk y4 (aA DL):=Zl
abbrev afn:Zc:=["record","person","absent"]
theorem Tb:aV afn G0 (aA DH):=Zl
abbrev asK:Zc:=["record","entry"]
theorem R9:aV asK BV (aA Jl):=Zl
abbrev asJ:Zc:=["record","step","person"]
theorem R8:aV asJ Gs (aA Jk):=Zl
abbrev asL:Zc:=["record","number","person","text"]
theorem R_:aV asL Gu (aA Jm):=Zl
abbrev as0:Zc:=["record","number"]
theorem SA:aV as0 BZ (aA JA):=Zl
abbrev afm:Zc:=["record","entry"]
theorem S9:aV afm GY (aA DG):=Zl
abbrev ate:Zc:=["entry","number"]
theorem S7:aV ate B5 (aA JN):=Zl
abbrev afl:Zc:=["record","number","each","entry"]
theorem S8:aV afl GX (aA DF):=Zl
abbrev asy:Zc:=["record","number","count","text","entry"]
theorem RR:aV asy Gi (aA I_):=Zl
abbrev asv:Zc:=["record","count","answer","number","entry","text"]
theorem RM:aV asv Gh (aA IX):=Zl
abbrev En:=Vbwbal.Entry
abbrev Rc:=Vbwbal.Record
def cut(H:Hp)(L:Zz):Hp:=λb=>if b∈L then none else H b
theorem dQ{H:Hp}{L:Zz}{b:Addr}{o:HO}(h:ZaQ b=some o):H b=some o/\b∉L:=by
 unfold cut at h;by_cases e:b∈L
 ·rw[af e]at h;cases h
 ·rw[ae e]at h;exact⟨h,e⟩
theorem d_{H:Hp}{L:Zz}{b:Addr}{o:HO}(h:H b=some o)(hb:b∉L):ZaQ b=some o:=by unfold cut;rw[ae hb];exact h
theorem jh(H:Hp)(L:Zz):ah ZaQ H:=ah.all λb o h=>(dQ h).1
theorem uX{H:Hp}{L:Zz}{b:Addr}{o:HO}(h:b∈L):cut (Zw b o) L=cut H L:=by
 funext c;unfold cut;by_cases e:c∈L
 ·rw[af e,af e]
 ·rw[ae e,ae e,ax λq=>e (by rw[q];exact h)]
def jd(H:Hp)(L:Zz):Prop:=∀b∈L,∃xs,H b=some Yq
theorem HZ{H:Hp}{L:Zz}(hL:jd H L){P:Addr}(h:Wi P):Tab ZaQ P:=by
 obtain⟨ps,h1,h2,h3⟩:=h;have hn:∀b o,H b=some o->(∀xs,o≠.lst xs)->b∉L:=λb o e aK hb=>by obtain⟨xs,ex⟩:=hL b hb;rw[e]at ex;exact aK xs (bY ex)
 refine⟨ps,d_ h1 (hn _ _ h1 λxs e=>ZbC),h2,λpos cv e=>?_⟩;obtain⟨c,e1,e2⟩:=Zdk;exact⟨c,e1,d_ e2 (hn _ _ e2 λxs e=>ZbC)⟩
theorem jd.same{H H':Hp}{L:Zz}(h:jd H L)(s:Zd):jd H' L:=λb hb=>let⟨xs,e⟩:=h b hb;⟨xs,s.at e⟩
theorem iy{H H':Hp}{L:Zz}(s:Zd)(hL:jd H L):ah ZaQ (cut H' L):=by
 refine⟨λb o n e=>?_,λb ps e=>?_,λP h=>HZ (hL.same s) (s.tab P ((jh H L).tab P h))⟩
 ·obtain⟨e1,e2⟩:=dQ e;exact d_ (ZbT n e1) e2
 ·obtain⟨e1,e2⟩:=dQ e;obtain⟨p,hp⟩:=Zgo e1;exact⟨p,d_ hp e2⟩
theorem avy{H:Hp}{L:Zz}{b:Addr}(h:H b=none):ZaQ b=none:=by
 unfold cut;by_cases e:b∈L
 ·rw[af e]
 ·rw[ae e];exact h
def eK:En->Nat
 | .sign _ _=>0
 | .amend _ _ _=>1
def eT:En->Nat
 | .sign s _=>s
 | .amend e _ _=>e
def eP:En->Nat
 | .sign _ x=>x
 | .amend _ x _=>x
def eX:En->List Nat
 | .sign _ _=>[]
 | .amend _ _ t=>t
def mn(k t p x:V):Y6:=[("kind",k),("target",t),("person",p),("text",x)]
theorem Bx(k t p x:V):(mn k t p x).lookup ("kind":Str)=some k:=rfl
theorem NH(k t p x:V):(mn k t p x).lookup ("target":Str)=some t:=rfl
theorem NI(k t p x:V):(mn k t p x).lookup ("person":Str)=some p:=rfl
theorem adB(k t p x:V):(mn k t p x).lookup ("text":Str)=some x:=rfl
def vC(A:Ad)(H:Hp)(a:Addr)(x:En):Prop:=∃dx tx,H a=some (.ins A.entry dx (mn (nat (eK x)) (nat (eT x)) (nat (eP x)) (.ref tx)))/\H tx=some (.lst (nats (eX x)))
theorem vC.same{A:Ad}{H H':Hp}{a:Addr}{x:En}(s:Zd)(h:vC A H a x):vC A H' a x:=by obtain⟨dx,tx,h1,h2⟩:=h;exact⟨dx,tx,UZ,s.at h2⟩
def bC.aH(i:bC):Zz:=[i.ab,i.en,i.sg]
structure dM(A:Ad)(H:Hp)(r:Addr)(i:bC)(j:aW)(R:Rc):Prop where
 nd:i.aH.Nodup
 ins:YX r=some Zem
 plan:dw A.plan YX i.p j R.plan
 absent:H i.ab=some (.lst (kO R.plan R.absent))
 ib:H i.sg=some (.lst (Zgl ZF))
 entries:∃zs:List (Addr×En),H i.en=some Wn/\zs.map ZZ=R.entries/\∀z∈zs,vC A YX z.1 z.2
 tab:Wi A.tab
theorem dM.dO{A:Ad}{H:Hp}{r:Addr}{i:bC}{j:aW}{R:Rc}(h:Xn):jd H i.aH:=λb hb=>by
 unfold bC.aH at hb;obtain⟨zs,e,_⟩:=h.entries;rcases aJ.mp hb with q|hb
 ·exact⟨_,q▸h.absent⟩
 rcases aJ.mp hb with q|hb
 ·exact⟨_,q▸e⟩
 ·rw[bo.mp hb];exact⟨_,h.ib⟩
theorem dM.same{A:Ad}{H H':Hp}{r:Addr}{i:bC}{j:aW}{R:Rc}(s:Zd)(h:Xn):ZbO j R:=by have sc:=iy s h.dO;obtain⟨zs,e1,e2,e3⟩:=h.entries;exact⟨h.nd,sc.at h.ins,h.plan.same sc,s.at h.absent,s.at h.ib,⟨zs,s.at e1,e2,λz hz=>(e3 z hz).same sc⟩,s.tab _ h.tab⟩
theorem dM.fC{A:Ad}{H:Hp}{r:Addr}{i:bC}{j:aW}{R:Rc}(h:Xn):RecAt A H r i j R.plan R.absent ZF:=
 ⟨(dQ h.ins).1,h.plan.same (jh _ _),h.absent,h.ib,h.tab⟩
structure eJ(R:Rc):Prop where
 wf:Wf R.plan
 wc:gZ R.plan ZF
 ab:R.absent.Pairwise Vg
 vb:∀x∈R.absent,x<R.plan.persons.length
 uU:R.entries.length-(choiceOf R).length <=40
 texts:∀e∈R.entries,(eX e).length <=60
theorem aqO(R:Rc)(h:eJ R):(choiceOf R).length <=7:=by
 have h1:=n9 R.plan.steps.length ((choiceOf R).map Zh) h.wc.nd λx hx=>by obtain⟨y,hy,rfl⟩:=aO.mp hx;exact h.wc.steps y hy
 rw[aq]at h1;have:=h.wf.steps;omega
theorem eJ.len{R:Rc}(h:eJ R):R.entries.length<=47:=by have h1:=aqO R h;have h2:=h.uU;have h3:(choiceOf R).length <=R.entries.length:=O9 _ _;omega
def IE(A:Ad):Sp:=λvs H Q _=>∃(x dx:Addr) (a b c d:V),vs=[.ref x,a,b,c,d]/\H x=some (.ins A.entry dx [])/\Q .ba (Zw x (.ins A.entry dx (mn a b c d)))
def Ru(A:Ad):Sp:=λvs H Q _=>∃(r:Addr) (i:bC) (j:aW) (P:Plan) (ab:Za) (c:Choice),vs=[.ref r]/\YM/\ZG/\
 ∀(H':Hp) (l:Addr),Zd->H l=none->H' l=some (.lst (nats ((List.range P.persons.length).filter λx=>Zit)))->Z0 H'
def IA(A:Ad):Sp:=λvs H Q _=>∃(r:Addr) (i:bC) (j:aW) (R:Rc) (z:Int),vs=[.ref r,.int z]/\Xn/\eJ R/\
 Q (.bl (decide (0<=z)&&Zbt z.toNat)) H
def IH(A:Ad):Sp:=λvs H Q _=>∃(a:Addr) (x:En) (n:Nat),vs=[.ref a,nat n]/\vC A H a x/\Q (.bl (decide (eK x=1)&&decide (eT x=n))) H
def Rr(A:Ad):Sp:=λvs H Q _=>∃(r:Addr) (i:bC) (j:aW) (R:Rc),vs=[.ref r]/\Xn/\eJ R/\
 ∀(H':Hp),Zd->Q (nat (R.entries.length-(choiceOf R).length)) H'
def Iv(A:Ad):Sp:=λvs H Q _=>∃(r e:Addr) (i:bC) (xs:Ze),vs=[.ref r,.ref e]/\H r=some Zem/\H i.en=some Yq/\xs.length<=1000/\
 Q (nat xs.length) Zre
def QU(A:Ad):Sp:=λvs H Q _=>∃(r:Addr) (i:bC) (j:aW) (R:Rc) (s x:Nat),vs=[.ref r,nat s,nat x]/\Xn/\eJ R/\s<R.plan.steps.length/\signer ZF s=none/\
 ∀(H':Hp),Zai->ZbO j {R with entries:=R.entries++[.sign s x]}->Zty H'
def QV(A:Ad):Sp:=λvs H Q _=>∃(r a:Addr) (i:bC) (j:aW) (R:Rc) (e x:Nat) (t:Za),vs=[.ref r,nat e,nat x,.ref a]/\Xn/\eJ R/\YX a=some ZmU/\
 ∀(H':Hp),Zai->ZbO j {R with entries:=R.entries++[.amend e x t]}->Zty H'
def Rq(A:Ad):Sp:=λvs H Q _=>∃(r:Addr) (i:bC) (j:aW) (R:Rc) (n:Nat),vs=[.ref r,nat n]/\Xn/\eJ R/\
 ∀(H':Hp) (l:Addr),Zd->H l=none->H' l=some (.lst (nats (Zkv n)))->Z0 H'
theorem C_(a b:List En):signed (a++b)=signed a++signed b:=List.filterMap_append
theorem aht{P:Plan}{c:Choice}{s x:Nat}(hs:s<P.steps.length)(hn:ZbQ):(ic P c).set s XW=ic P Ym:=by
 unfold ic;refine List.ext_getElem? λm=>?_;by_cases e:m=s
 ·subst e;rw[Hb (by rw[aq,eM];exact hs),cx,zc hs];show some XW=some (lW (signer (c++[(m,x)]) m));rw[nR hn,af rfl];rfl
 ·rw[Co ZfO,cx,cx];cases hm:(List.range P.steps.length)[m]? with
  |none=>rfl
  |some y=>
   obtain⟨rfl,_⟩:=tw hm;show some (lW (ZS y))=some (lW (signer Ym y));rw[nR hn,ae e]
theorem HY{H:Hp}{P b:Addr}{xs:Ze}{o:HO}(h:Wi P)(hb:H b=some Yq):Tab (Zw b o) P:=by obtain⟨ps,h1,h2,h3⟩:=h;refine⟨ps,by rw[ax (ie h1 hb (by intro z;cases z))];exact h1,h2,λpos cv e=>?_⟩;obtain⟨c,e1,e2⟩:=Zdk;exact⟨c,e1,by rw[ax (ie e2 hb (by intro z;cases z))];exact e2⟩
theorem bC.apart{i:bC}(h:i.aH.Nodup):i.ab≠i.en/\i.ab≠i.sg/\i.en≠i.sg:=by unfold bC.aH at h;obtain⟨nd1,q_⟩:=df.mp h;obtain⟨KA,_⟩:=df.mp q_;exact⟨λe=>nd1 (by rw[e];exact aY),λe=>nd1 (by rw[e];exact ZD aY),λe=>KA (by rw[e];exact aY)⟩
theorem bC.amg(i:bC):i.ab∈i.aH:=aY
theorem bC.ace(i:bC):i.en∈i.aH:=ZD aY
theorem bC.amf(i:bC):i.sg∈i.aH:=ZD (ZD aY)
theorem adg{A:Ad}{H H1 H4:Hp}{r e:Addr}{i:bC}{j:aW}{R:Rc}{x:En}{zs:List (Addr×En)}(hR:Xn)(h1:cut H1 i.aH=cut H i.aH)(l1:jd H1 i.aH)(t1:Tab H1 A.tab)(a1:H1 i.ab=H i.ab)
  (sg1:H1 i.sg=some (.lst (Zgl (signed (R.entries++[x]))))) (e1:H1 i.en=some Wn) (ez:zs.map ZZ=R.entries) (hz:∀z∈zs,vC A YX z.1 z.2) (s:Yc H4) (he:vC A (cut H4 i.aH) e x):
  ah YX (cut ZjZ i.aH)/\dM A ZjZ r i j {R with entries:=R.entries++[x]}:=by
 obtain⟨n1,n2,n3⟩:=bC.apart hR.nd;have sc:ah YX (cut ZjZ i.aH):=by rw[uX i.ace,←h1];exact iy s l1
 refine⟨sc,hR.nd,sc.at hR.ins,hR.plan.same sc,?_,?_,⟨zs++[(e,x)],?_,?_,λz EM=>?_⟩,HY (s.tab _ t1) (s.at e1)⟩
 ·rw[ax n1];exact s.at (a1.trans hR.absent)
 ·rw[ax (λq=>n3 q.symm)];exact s.at sg1
 ·rw[au,qO];rfl
 ·rw[cA,ez];rfl
 ·rcases b8.mp EM with q|q
  ·exact(hz z q).same sc
  ·rw[bo.mp q,uX i.ace];exact he
theorem ali{H:Hp}{L:Zz}{b:Addr}{xs:Ze}(h:jd H L):jd (Zw b Yq) L:=λc hc=>by
 by_cases e:c=b
 ·rw[e];exact⟨xs,au⟩
 ·obtain⟨ys,hy⟩:=h c hc;exact⟨ys,by rw[ax e];exact hy⟩
theorem jd.n8{H:Hp}{L:Zz}{b:Addr}(h:jd H L)(hb:H b=none):b∉L:=λhm=>by obtain⟨xs,e⟩:=h b hm;rw[hb]at e;cases e
theorem al3{l:List En}{n:Nat}{x:En}(h:l[n]? =some x):isSign l n=decide (eK x=0):=by unfold isSign;rw[h];cases x<;>rfl
theorem adW:∀l:List En,(l.filter λx=>eK x==1).length =l.length-(signed l).length
 |[]=>rfl
 |x::r=>by
  have ih:=adW r;have hle:(signed r).length <=r.length:=O9 _ _;rw[jf];cases x with
  |sign s y=>
   have e:signed (.sign s y::r)=(s,y)::signed r:=rfl;rw[e,ae (by simp[eK]),ih,bb,bb];omega
  |amend e y t=>
   have e':signed (Zb6 y t::r)=signed r:=rfl;rw[e',af (by simp[eK]),bb,ih,bb];omega
section
variable {P:Program}{w:World}{K:PySem.W.Frag}{mg:Zy}{base:Heap}{A:Ad}
theorem aj5{f:Addr}{fd:FuncData}(T:Zm)(F:Zav "Entry.__init__" DL f fd):Z4 y4 (IE A):=by
 have nd:=Tf.nd;refine F.ok Tf Zk Zn
 ·obtain⟨x,dx,a,b,c,d,rfl,_⟩:=h;rfl
 ·obtain⟨x,dx,a,b,c,d,rfl,hx,k⟩:=h;refine⟨_,(ao ZiC
   (ao (UI ZR rfl)
   (ao (UI ZH rfl)
   (ak (iY K (pv 0) (pv 4) rfl))))),?_⟩
  have n1:=Ze1;have n2:=ZmD;have n3:=ZmC;have n4:=Znl;simp! [hx,T.r8,n1,n2,n3,n4];exact Zoc
theorem aku{f:Addr}{fd:FuncData}(T:Zm)(F:Zo "absent_persons" "absent_persons" DH f fd):Z4 G0 (Ru A):=by
 have nd:=Tb.nd;refine F.ok Tb Zk Zn
 ·ext K
 ·ext a1;have aT:=wf.persons;refine⟨_,(ak (ay (dW (own:=[("person",1),("absent",2)]) rfl nd ZhD (show cB afn (aA DH) _ _ from Yi) ZjK (λ_ _ _ _ _=>iX ZnL) ZhK))),?_⟩;have nn:=ZcG;simp! [hR.ins,T.dD,nn,z_];refine⟨_,Zie,Zoj (λx=>Zit) nat ZjY Zee⟩;ext aW;ext r;simp! [yO];cases e:ab.contains z with
  |true=>exact ZlU
  |false=>exact ZlT
theorem akp{f:Addr}{fd:FuncData}(T:Zm)(F:Zo "amends" "amends" JN f fd):Z4 B5 (IH A):=by
 have nd:=S7.nd;refine F.ok S7 Zk Zn
 ·obtain⟨a,x,n,rfl,_⟩:=h;rfl
 ·obtain⟨a,x,n,rfl,⟨dx,tx,h1,h2⟩,k⟩:=h;refine⟨_,(ak (ay (lT (eE cS Yp ZnQ ZO) (mR (eE cS Yp ZE ZO))))),?_⟩;have n1:=Ze1;have n2:=ZmD;simp! [h1,T.r8,n1,n2,Bx,NH];cases x with
  |sign s y=>exact aF k
  |amend e y t=>
   ext e;have:(decide (eK (Zb6 y t)=1)&&decide (eT (Zb6 y t)=n))=decide (eT (Zb6 y t)=n):=by show(true&&_)=_;rw[fm]
   rw[this]at k;exact k
theorem ajT{f:Addr}{fd:FuncData}(T:Zm)(F:Zo "is_signature" "is_signature" JA f fd):Z4 BZ (IA A):=by
 have nd:=SA.nd;refine F.ok SA Zk Zn
 ·obtain⟨r,i,j,R,z,rfl,_⟩:=h;rfl
 ·obtain⟨r,i,j,R,z,rfl,hR,wr,k⟩:=h;refine⟨_,(ak (ay (lT (D0 nZ qX aR ZE (Xd Zct)) (mR (eE cS (aD K ZnM rfl) (bE T.M_ rfl) ZO))))),?_⟩;have n1:=Ue;have n2:=Ze1;ext D;ext y;have cE:zs.length=R.entries.length:=by rw[←ez,aq]
  simp! [hi,T.dD,n1,n2,pk];by_cases h0:(0 :Int)<=z
  ·rw[bu h0,fm]at k;rw[bu h0];obtain⟨n,rfl⟩:=Int.eq_ofNat_of_zero_le h0;refine ZpY;rw[fT];have k':Q (.bl (Zbt n)) H:=k;by_cases bG:n<zs.length
   ·obtain⟨x,hx⟩:=fM bG;have hxe:R.entries[n]? =some x.2:=by rw[←ez,cx,hx];rfl
    obtain⟨dx,tx,e1,e2⟩:=(hz x (bI hx)).same (jh H i.aH);rw[bu (show(n:Int)<(zs.length:Int) by omega)];refine aI ⟨_,Zdy,_,bQ (show(refs zs)[n]? =some (.ref x.1) by unfold refs;rw[cx,hx];rfl),x.1,rfl,_,_,_,e1,T.r8,n2,_,Bx _ _ _ _,rfl,?_⟩;rw[al3 hxe]at k';have:decide (nat (eK x.2)=V.int 0)=decide (eK x.2=0):=by rw[iS];simp only[bX,mU];omega
    rw[this];exact k'
   ·rw[aX (show¬(n:Int)<(zs.length:Int) by omega)];ext g;have:Zbt n=false:=by unfold isSign;rw[Cp Zb]
    rw[this]at k';exact k'
  ·rw[aX h0,gK]at k;rw[aX h0];exact aF k
theorem akr{f:Addr}{fd:FuncData}(T:Zm)(F:Zo "amendment_count" "amendment_count" DG f fd):Z4 GY (Rr A):=by
 have nd:=S9.nd;refine F.ok S9 Zk Zn
 ·obtain⟨r,i,j,R,rfl,_⟩:=h;rfl
 ·obtain⟨r,i,j,R,rfl,hR,wr,k⟩:=h;refine⟨_,(ak (ay (Xd (aa (dW (own:=[("entry",1)]) rfl nd (ZV Yp) (show cB afm (aA DG) _ _ from Yi) Zes (λ_ _ _ _ _=>iX (WG ZcR ZnQ ZO)) ZhK) ai)))),?_⟩;have n1:=Ue;have n2:=Ze1;ext D;ext y;have cE:zs.length=R.entries.length:=by rw[←ez,aq]
  have kI:=wr.len;simp! [hi,T.dD,n1,pk];refine⟨⟨_,Zdy⟩,e8 (zs:=zs) Zdy (fT _) Zb (λz=>eK z.2==1) (λz=>ZaJ) (λm v z H' hv cO s1 R' S bc hS=>?_) Va⟩
  ·obtain⟨z',br,rfl⟩:=qN hv;rw[cO]at br;cases br
   obtain⟨dx,tx,e1,e2⟩:=(hz z (bI cO)).same ((jh H i.aH).trans s1);simp! [e1,T.r8,n2,Bx];cases e:(eK z.2==1)with
   |true=>
    have:((eK z.2:Nat):Int)=1:=by have:=eq_of_beq e;omega
    rw[bu this];exact Zil
   |false=>
    have:¬((eK z.2:Nat):Int)=1:=by have:=ne_of_beq_false e;omega
    rw[aX this];exact Zik
  ·refine⟨_,.inl ⟨_,ZaV,rfl⟩,?_⟩;have e1:(List.map (λz=>V.ref z.1) (zs.filter λz=>eK z.2==1)).length =R.entries.length-(choiceOf R).length :=by rw[aq];unfold choiceOf;rw[←adW,←ez,vt,aq];rfl
   rw[e1];exact Wy
theorem ajs{f:Addr}{fd:FuncData}(T:Zm)(F:Zo "put_entry" "put_entry" Jl f fd):Z4 BV (Iv A):=by
 have nd:=R9.nd;refine F.ok R9 Zk Zn
 ·obtain⟨r,e,i,xs,rfl,_⟩:=h;rfl
 ·obtain⟨r,e,i,xs,rfl,hi,he,hl,k⟩:=h;refine⟨_,(ao (dU (Wo Yp Ws))
   (ak (ay (cR qW (bW (c6 K) (by rfl) T.cM cU (aa (aD K (pv 0) rfl) ai)) aR)))),?_⟩
  have n1:=Ue;ext c;have aK:r≠i.en:=ie hi he (by intro z;cases z);have hi2:Zre r=some Zem:=by rw[ax aK];exact hi
  simp! [hi,T.dD,n1,pk,cQ he];refine⟨xs,he,Zb,?_⟩;simp! [hi2,T.dD,n1,pk];refine⟨_,.inl ⟨_,ag.of au,rfl⟩,?_⟩;have:V.int (((xs++[V.ref e]).length :Int)-1)=nat xs.length:=by rw[bS,O8];show V.int _=V.int _;congr 1;omega
  rw[this];exact k
theorem ajr{f:Addr}{fd:FuncData}(T:Zm)(yo:ZsA)(yx:Zru)(F:Zo "put_signature" "put_signature" Jk f fd):VM Gs (QU A):=by
 have nd:=R8.nd;refine F.ok R8 Zk Zn
 ·obtain⟨r,i,j,R,s,x,rfl,_⟩:=h;rfl
 ·obtain⟨r,i,j,R,st,x,rfl,hR,wr,aT,gD,k⟩:=h;refine⟨_,(ao (Kf ZR (Ki Yp ZE set_list))
   (ak (ay (az yo hr rfl (aa (pv 0) (aa (qS yx hr rfl (aa (bE T.M_ rfl) (aa (pv 1) (aa (pv 2) (aa (bh ai) ai))))) ai)))))),?_⟩
  have n1:=ZcE;ext D;ext c;ext y;obtain⟨na1,na2,na3⟩:=bC.apart hR.nd;have cE:zs.length<=47:=by have:=wr.len;rw[←ez,aq]at this;exact this
  simp! [hi,T.dD,n1,wN];refine⟨_,hR.ib,st,EG (by rw[Ry];exact aT),ZI,?_⟩;rw[aht aT gD];intro p hp x3 dx md gE gU;refine Zrz;rw[jP];obtain⟨H1,fw⟩:∃H1,H1=Zw i.sg (.lst (Zgl (choiceOf R++[(st,x)]))):=Zs;rw[←fw]at hp md gE⊢;have l1:jd H1 i.aH:=by rw[fw];exact ali hR.dO
  have s2:Yc (Yo p Ye):=WE;have s4:=zR (o:=ZjN) s2 md gE gU;obtain⟨H4,rW⟩:∃H4,H4=upd (upd (Yo p Ye) dx (.own x3)) x3 ZjN:=Zs;rw[←rW]at s4⊢;have he1:H1 i.en=some Wn:=by rw[fw,ax na3];exact he
  have Lm:H4 x3=some ZjN:=by rw[rW];exact au
  have hpx:p≠x3:=λe=>by rw[←e,au]at md;cases md
  have LC:p≠dx:=λe=>by rw[←e,au]at gE;cases gE
  have rJ:H4 p=some Ye:=by rw[rW,ax hpx,ax LC];exact au
  have uB:H1 r=some Zem:=by rw[fw,ax (ie hi hR.ib (by intro z;cases z))];exact hi
  obtain⟨f1,f2⟩:=adg (e:=x3) (x:=.sign st x) hR (by rw[fw];exact uX i.amf) l1 (by rw[fw];exact HY hR.tab hR.ib) (by rw[fw,ax na2]) (by rw[fw,au,C_];rfl) he1 ez hz s4
   ⟨dx,p,d_ Lm (l1.n8 (s2.free md)),d_ rJ (l1.n8 hp)⟩
  refine⟨r,x3,i,Zb5,rfl,s4.at uB,s4.at he1,Zin,?_⟩;have:(refs zs).length =R.entries.length:=by rw[fT,←ez,aq]
  rw[this];exact k _ f1 f2
theorem ajt{f:Addr}{fd:FuncData}(T:Zm)(yo:ZsA)(yx:Zru)(F:Zo "put_amendment" "put_amendment" Jm f fd):VM Gu (QV A):=by
 have nd:=R_.nd;refine F.ok R_ Zk Zn
 ·obtain⟨r,a,i,j,R,e,x,t,rfl,_⟩:=h;rfl
 ·obtain⟨r,a,i,j,R,en,x,t,rfl,hR,wr,ha,k⟩:=h;refine⟨_,(ak (ay (az yo hr rfl (ZL (aa (qS yx hr rfl (aa ZnQ (Xl (XY X4)))) ai))))),?_⟩;ext D;ext y;have cE:zs.length<=47:=by have:=wr.len;rw[←ez,aq]at this;exact this
  obtain⟨j6,jD⟩:=dQ ha;ext a;intro x3 dx md gE gU;refine Zrz;rw[jP];have s4:=zR (o:=ZjO) ZfA md gE gU;obtain⟨H4,rW⟩:∃H4,H4=upd (Zw dx (.own x3)) x3 ZjO:=Zs;rw[←rW]at s4⊢;have Lm:H4 x3=some ZjO:=by rw[rW];exact au
  obtain⟨f1,f2⟩:=adg (e:=x3) (x:=.amend en x t) hR rfl hR.dO hR.tab rfl (by rw[C_];exact hR.ib.trans (by show some (HO.lst (Zgl ZF))=some (HO.lst (Zgl (choiceOf R++[])));rw[fc])) he ez hz s4
   ⟨dx,a,d_ Lm (hR.dO.n8 md),d_ (s4.at j6) jD⟩
  refine⟨r,x3,i,Zb5,rfl,s4.at hi,s4.at he,Zin,?_⟩;have:(refs zs).length =R.entries.length:=by rw[fT,←ez,aq]
  rw[this];exact k _ f1 f2
end
end
section
open Vbwbal (signer load goesWith fits unsigned choiceOf signed isSign signerOf textAt amendments entryTold)
def QK(A:Ad):Sp:=λvs H Q _=>∃(r:Addr) (i:bC) (j:aW) (R:Rc) (n k:Nat),vs=[.ref r,nat n,nat k]/\Xn/\eJ R/\
 ∀(H':Hp) (l:Addr),Zd->H' l=some (.lst (nats (Zib k n)))->Z0 H'
def QJ(A:Ad):Sp:=λvs H Q _=>∃(r:Addr) (i:bC) (j:aW) (R:Rc) (k:Nat),vs=[.ref r,nat k]/\Xn/\eJ R/\k<=R.entries.length/\
 ∀(H':Hp) (l:Addr),Zd->H l=none->H' l=some (.lst (iv ((List.range k).flatMap (ZgX k))))->((List.range k).flatMap (ZgX k)).length <=10000->Z0 H'
section
variable {K:PySem.W.Frag}{a:Addr}{g:TG}{tb:TS}{D:Ends}{σ:L2.St}{H:Hp}
theorem aoy(xs:Ze)(Pv:Zag)(h0:ZaM)(hl:Zkb)
  (hs:∀(i:Nat) x T σ H,xs[i]? =some x->X6->H T=none->ZiJ ZsP fun σ2 H2=>tb {D with nx:=Pv (i+1),ct:=Pv (i+1),bk:=D.nx} σ2 H2) (hd:Zcl):qu (Hk K a) g tb D σ H:=by
 refine Zgx
 ·ext Z
 ·ext b3
end
section
variable {P:Program}{w:World}{K:PySem.W.Frag}{mg:Zy}{base:Heap}{A:Ad}
theorem akq{f:Addr}{fd:FuncData}(T:Zm)(yw:ZtA)(F:Zo "amendments_of" "amendments_of" DF f fd):X5 GX (Rq A):=by
 have nd:=S8.nd;refine F.ok S8 Zk Zn
 ·obtain⟨r,i,j,R,n,rfl,_⟩:=h;rfl
 ·obtain⟨r,i,j,R,n,rfl,hR,wr,k⟩:=h;refine⟨_,(ak (ay (dW (own:=[("each",2),("entry",3)]) rfl nd ZhD (show cB afl (aA DF) _ _ from Yi) (λ_ _ _ _ _=>Zck) (λ_ _ _ _ _=>iX (Z5 (az yw hr rfl (aa ZH Ws)) Z2)) (λ_ _ _ _ _=>ZR)))),?_⟩;have n1:=Ue;ext D;ext y;have cE:zs.length=R.entries.length:=by rw[←ez,aq]
  have kI:=wr.len;simp! [hi,T.dD,n1,pk];refine⟨_,Zdy,Ew (zs:=List.range R.entries.length) Zdy (by rw[fT,eM,cE]) (by rw[eM];omega) (λm=>match R.entries[m]? with |some (.amend f _ _)=>f==n|_=>false) nat (λm x z H' Tp hx cO s1 hT R' S bc hS=>?_) Zee⟩;obtain⟨rfl,bG⟩:=tw cO;obtain⟨y,hy,rfl⟩:=qN hx;have hye:R.entries[z]? =some y.2:=by rw[←ez,cx,hy];rfl
  have s2:ah H' (Wz Tp (.tup [nat z,.ref y.1])):=a0 hT;ext r;have hE:=(hz y (bI hy)).same (((jh H i.aH).trans s1).trans s2);ext a;refine⟨y.1,y.2,n,rfl,hE,_,rfl,?_⟩;have ek:(match R.entries[z]? with |some (.amend f _ _)=>f==n|_=>false)=(decide (eK y.2=1)&&decide (eT y.2=n)):=by
   rw[hye];cases y.2 with
   |sign a b=>rfl
   |amend a b c=>
    show(a==n)=(true&&decide (a=n));rw[fm];rfl
  cases e:(decide (eK y.2=1)&&decide (eT y.2=n))with
  |true=>exact aI (bc (ek.trans e) _ s2)
  |false=>exact aF (hS (ek.trans e) _ s2)
theorem adU(xs:Ze)(k:Nat):ja xs none Znx=xs.take k:=by unfold ja;rw[HT.DO,HT.Tt,afI,Nat.sub_zero,List.take_eq_take_iff];omega
theorem agW{l:List En}{m n:Nat}{x:En}(h:l[m]? =some x):textAt l XG n=if(decide (eK x=1)&&decide (eT x=n))=true then eX x else textAt l m n:=by
 unfold textAt;rw[dA h,Pa];cases x with
 |sign a b=>rfl
 |amend a b c=>
  show(if a=n then c else _)=if(true&&decide (a=n))=true then c else _
  rw[fm];by_cases e:a=n
  ·rw[af e,af (bu e)]
  ·rw[ae e,ae ZlX]
theorem ajb{f:Addr}{fd:FuncData}(T:Zm)(yw:ZtA)(F:Zo "text_as_of" "text_as_of" I_ f fd):X5 Gi (QK A):=by
 have nd:=RR.nd;refine F.ok RR Zk Zn
 ·obtain⟨r,i,j,R,n,k,rfl,_⟩:=h;rfl
 ·obtain⟨r,i,j,R,n,kk,rfl,hR,wr,k⟩:=h;refine⟨_,(ao (Xj Wa)
   (ao (dN dF rfl (ZV (Zgm Yp pA (kX ZR))) WT (ak (bg (Z5 (az yw hr rfl (aa Yh Ws)) Z2) (ak (Xj Zno)) bp)))
   (ak (ay (pv 3))))),?_⟩
  have n1:=Ue;have n2:=Znl;ext D;ext c;ext y;have cE:zs.length=R.entries.length:=by rw[←ez,aq]
  have kI:=wr.len;simp! [b7];intro l0 cY;ext bw;have m_:l0≠p:=λe=>by rw[←e,au]at hp;cases hp
  ext b9;have bH:H2 l0=some Ye:=by rw[fL,ax m_];exact au
  have dP:H2 p=some Zef:=by rw[fL];exact au
  obtain⟨Pv,aB⟩:∃Pv:Nat->L2.St->Hp->Prop,∀m σ H',YK H'↔∃(l:Addr) (v4:ZM),σ=[some Yr,some (nat n),some (nat kk),some Z6,v4]/\H'=H2/\H2 l=some (.lst (nats (Zib (min m kk) n))):=Yg;refine⟨⟨_,ag.of dP⟩,gH (refs Zfo) Pv ((Zi _).mpr ⟨l0,none,rfl,rfl,by rw[bH];simp[textAt,nats]⟩) (λi σ H' _ hv=>let⟨_,_,_,e,_⟩:=(Zi _).mp hv;by rw[e];exact ag.of dP) ?_ ?_⟩
  ·ext az;obtain⟨l,v4,rfl,rfl,hl⟩:=(Zi _).mp hv;obtain⟨z,cO,rfl⟩:=qN hy;have xS:m<kk:=by have:=lh cO;rw[eY]at this;omega
   rw[afy xS]at cO;have pK:R.entries[m]? =some z.2:=by rw[←ez,cx,cO];rfl
   have hE:=(hz z (bI cO)).same ((jh H i.aH).trans s2);have e1:min XG kk=m+1:=by omega
   have e2:min m kk=m:=by omega
   have et:=agW (n:=n) pK;rw[e2]at hl;ext a;refine⟨z.1,z.2,n,rfl,hE,_,rfl,?_⟩;cases e:(decide (eK z.2=1)&&decide (eT z.2=n))with
   |true=>
    ext e;obtain⟨dx,tx,q1,q2⟩:=hE;simp! [q1,T.r8,n2,adB];refine(Zi _).mpr ⟨tx,_,rfl,rfl,?_⟩;rw[e1,et,af e];exact q2
   |false=>
    refine aF ((Zi _).mpr ⟨l,_,rfl,rfl,?_⟩);rw[e1,et,ae (by rw[e];simp)];exact hl
  ·ext B;obtain⟨l,v4,rfl,rfl,hl⟩:=(Zi _).mp hv;ext a;refine k H3 l s2 ?_;rw[hl];congr 2;unfold nats;congr 1;rw[fT,eY];unfold textAt;congr 1;rw[List.take_eq_take_iff];omega
theorem Qh{R:Rc}(wr:eJ R)(k n:Nat):(Zib k n).length <=60:=by
 unfold textAt;have:∀(l:List En) (t:Za),t.length<=60->(∀e∈l,(eX e).length <=60)->(l.foldl (λt x=>match x with | .amend f _ u=>if f=n then u else t|_=>t) t).length <=60:=by
  intro l
  induction l with
  |nil=>intro t ht _;exact ht
  |cons x r ih=>
   intro t ht h;rw[vq];refine ih _ ?_ λe he=>h e (ZD he);cases x with
   |sign a b=>exact ht
   |amend a b c=>
    show(if a=n then c else t).length <=60;split
    ·exact h _ aY
    ·exact ht
 exact this _ [] ZI λe he=>wr.texts e (Cj he)
def CK(l:List En)(k m:Nat)(x:En):Za:=[eK x,eT x,eP x]++((if eK x=0 then textAt l k m else eX x).length ::(if eK x=0 then textAt l k m else eX x))
theorem agP{l:List En}{k m:Nat}{x:En}(h:l[m]? =some x):entryTold l k m=(CK l k m x).map Int.ofNat:=by unfold entryTold;rw[h];cases x<;>rfl
theorem ai6{f:Addr}{fd:FuncData}(T:Zm)(MB:Zv "text_as_of" Gi 2 (QK A))(dZ:Ub)(F:Zo "viewed" "viewed" IX f fd):VM Gh (QJ A):=by
 have nd:=RM.nd;refine F.ok RM Zk Zn
 ·obtain⟨r,i,j,R,k,rfl,_⟩:=h;rfl
 ·obtain⟨r,i,j,R,kk,rfl,hR,wr,LW,k⟩:=h;refine⟨_,(ao Zdq
   (ao (dN dF rfl (Ai K rfl T.tS (aa (Zgm Yp pA (kX ZE)) ai)) ZqJ (ao (bq 5 nd (w8 (WG Zno (bE T.M_ rfl) ZO) (az MB hr rfl (ZL (aa ZH Ws))) Zno))
   (ak (dU (dq K dE qj qi n_ (pv 2) (aa (cR k0 (bh (aa (aD K (pv 4) rfl) (aa (aD K (pv 4) rfl) (aa (aD K (pv 4) rfl) ai)))) (az dZ hr rfl (aa (pv 5) ai))) ai))))))
   (ak (ay (pv 2))))),?_⟩
  have n1:=Ue;have n2:=Znl;have n3:=Ze1;have n4:=ZmD;have n5:=ZmC;ext D;ext c;ext y;have cE:zs.length=R.entries.length:=by rw[←ez,aq]
  have kI:=wr.len;simp! [b7];intro l0 cY;ext bw;have m_:l0≠p:=λe=>by rw[←e,au]at hp;cases hp
  ext b9;have bH:H2 l0=some Ye:=by rw[fL,ax m_];exact au
  have dP:H2 p=some Zef:=by rw[fL];exact au
  obtain⟨tl,pO⟩:∃tl:Nat->Za,∀m x,R.entries[m]? =some x->tl m=CK R.entries kk m x:=⟨λm=>match R.entries[m]? with |some x=>CK R.entries kk m x|none=>[],λm x h=>by simp only[h]⟩;have acj:∀m x,R.entries[m]? =some x->(tl m).length <=64:=λm x h=>by rw[pO m x h];have h1:=Qh wr kk m;have h2:=wr.texts x (bI h);unfold CK;simp only[bS,bb,jK];split<;>omega
  have rP:∀m,m<=R.entries.length->((List.range m).flatMap tl).length <=64*m:=λm=>by
   induction m with
   |zero=>intro _;exact ZI
   |succ m ih=>
    intro h;have h1:=ih Zb;obtain⟨x,hx⟩:=ZtI Zb;have h2:=acj m x hx;rw[Cg,oQ,bS];simp only[iR,Pb,fc];omega
  obtain⟨Pv,aB⟩:∃Pv:Nat->L2.St->Hp->Prop,∀m σ H',YK H'↔∃(v3 v4 v5:ZM),σ=[some Yr,some (nat kk),some (.ref l0),v3,v4,v5]/\Zd/\H' p=some Zef/\H' l0=some ZjX:=Yg;refine⟨_,ag.of dP,?_⟩;refine aoy (refs Zfo) Pv ((Zi _).mpr ⟨none,none,none,rfl,s2,dP,bH⟩) (λi σ H' _ hv=>let⟨_,_,_,_,_,e,_⟩:=(Zi _).mp hv;ag.of e) ?_ ?_
  ·intro m y Tp σ H3 hy hv hTp;ext cL;obtain⟨z,cO,rfl⟩:=qN hy;have xS:m<kk:=by have:=lh cO;rw[eY]at this;omega
   rw[afy xS]at cO;have pK:R.entries[m]? =some z.2:=by rw[←ez,cx,cO];rfl
   have s4:Wj Zqq:=Za7;have s_:=ZfC;ext r;obtain⟨dx,tx,q1,q2⟩:=(hz z (bI cO)).same ((jh H i.aH).trans s_);have et:=pO m z.2 pK;have pR:=rP m Zb;have htm:=acj m z.2 pK;obtain⟨o5,xD⟩:∃o5,o5=(if eK z.2=0 then Zib kk m else eX z.2):=Zs;have Nz:tl m=[eK z.2,eT z.2,eP z.2]++(o5.length::o5):=by rw[et,xD];rfl
   have auP:o5.length<=60:=by
    rw[xD];split
    ·exact Qh wr kk m
    ·exact wr.texts z.2 (bI pK)
   have fin:∀(H5:Hp) (l5:Addr),ah Zqq H5->H5 l5=some (.lst (nats o5))->CG K "list" (V.ref l0) H5/\3<=sizeLine/\∀qU,H5 qU=none->kR [V.ref l5] (upd H5 qU Zo5) (λy H2=>∃x,y=.ref x/\∃x_1,H2 qU=some (.lst x_1)/\∃x_2,H2 x=some (.lst x_2)/\x_1.length+x_2.length<=sizeLine/\
     ∀p_2,H2 p_2=none->∃x_3,upd H2 p_2 (.lst (x_1++x_2)) l0=some (.lst x_3)/\x_3.length+(x_1++x_2).length <=sizeLine/\Pv (m+1) [some (.ref r),some (nat kk),some (.ref l0),some (nat m),some (.ref z.1),some (.ref l5)] (upd (upd H2 p_2 (.lst (x_1++x_2))) l0 (.lst (x_3++(x_1++x_2))))) E0:=λH5 l5 s5 h5=>by
    have jz:=(s4.trans s5).at b0;refine⟨cQ jz,X2,λp1 ow=>?_⟩;have s6:ah H5 (upd H5 p1 Zo5):=a0 ow;refine⟨l5,nats o5,rfl,s6.at h5,by rw[bA];omega,λH7 l7 s7 acF pV=>⟨l7,rfl,_,s7.at au,_,pV,by simp only[bb,jK,bA];omega,λp2 dP=>?_⟩⟩;have JQ:=ZiU;have wI:=s_.trans (s5.trans JQ);have acG:H7 l0=some ZjX:=JQ.at jz;have auV:l0≠p2:=cg acG dP;obtain⟨H8,oE⟩:∃H8,H8=upd H7 p2 (.lst ([nat (eK z.2),nat (eT z.2),nat (eP z.2)]++nat (nats o5).length ::nats o5)):=Zs;rw[←oE];have wH:ah H7 H8:=by rw[oE];exact a0 dP
    have ly:H8 l0=some ZjX:=wH.at acG;refine⟨_,ly,?_,(Zi _).mpr ⟨_,_,_,rfl,bV (wI.trans wH) cY (gf ly),?_,?_⟩⟩
    ·simp only[bS,bb,jK,bA];omega
    ·rw[ax (λe=>m_ e.symm)];exact(s4.trans (s5.trans (JQ.trans wH))).at jZ
    ·rw[au,Cg,oQ];simp only[iR,Pb,fc];rw[Nz,lg,lg,bA];rfl
   have au7:=s4.at b0;simp! [q1,T.r8,n3,Bx];cases ng:decide (((eK z.2:Nat):Int)=0)with
   |true=>
    have gT:eK z.2=0:=by have:=lX ng;omega
    rw[af gT]at xD;ext e;refine⟨r,i,j,R,m,kk,rfl,hR.same s_,wr,λH5 l5 s5 h5=>?_⟩;rw[←xD]at h5;have q15:=s5.at q1;simp! [q15,T.r8,n3,n4,n5,Bx,NH,NI];exact fin H5 l5 s5 h5
   |false=>
    have gT:¬eK z.2=0:=by have:=of_decide_eq_false ng;omega
    rw[ae gT]at xD;ext g;simp! [n2,n4,n5,adB,NH,NI];rw[xD]at fin;exact fin _ tx ZW q2
  ·ext B;ext cL;have e1:(refs Zfo).length =kk:=by rw[fT,eY];omega
   rw[e1]at b0;ext a;have e2:(List.range kk).flatMap (ZgX kk)=((List.range kk).flatMap tl).map Int.ofNat:=by rw[O6];refine FN λm hm=>?_;obtain⟨x,hx⟩:=ZtI (by have:=dS.mp hm;omega);rw[agP hx,pO m x hx]
   refine k H3 l0 s3 cY ?_ ?_
   ·rw[b0,e2,EH]
   ·rw[e2,aq];have:=rP kk LW;omega
end
end
section
theorem aqi{prog:Program}{w:World}{A:Around}(hh:Vc)(it l:Addr)(aK:l≠it)(xs:YS):
  Draws prog w A it [it,l] (xs.size+1) (λi v=>xs[i-1]? =some v) (λi h=>1<=i/\Ze3 l (i-1)/\h.IsList l xs):=by
 have D:=Draws.list (prog:=prog) (w:=w) hh it l aK xs;refine⟨λi h st=>D.live (i-1) h st.2,λi h h' st k=>⟨st.1,D.frame (i-1) h h' st.2 k⟩,λi s Q E hi st hQ=>?_,λs Q E st hE=>D.done s Q E st.2 hE⟩;have h1:=st.1;refine D.item (i-1) s Q E Zb st.2 λx h' tk p gy sb=>hQ x h' tk p ⟨Zb,?_⟩ sb;have e:i+1-1=i-1+1:=by omega
 rw[e];exact gy
def Pl(K:PySem.W.Frag)(a:Addr):It:=
 ⟨λi H=>∃(xs:Ze) (x:V),YO/\xs[i]? =some x,λi H v H'=>∃T x,v=.ref T/\H T=none/\H'=Zw T ZeC/\∀xs,YO->xs[i]? =some x,λi H=>∃xs:List V,YO/\xs.length<=i⟩
theorem agH{P:Program}{w:World}{K:PySem.W.Frag}{elts:Ya}{kk:Nat}{fQ:Pos}(a e it:Addr):
  Turn P w K VC (Pl K a) [e,it] e (λi h=>(∃old,IsEnum h e it ((i+1 :Nat):Int) old)/\Ze3 a i/\e≠it) where
 mem:=aY
 obj:=λi h st b hb=>by
  ext cP;rcases aJ.mp hb with z|hb
  ·subst z;refine⟨_,he,λv q=>?_⟩;cases q
  ·exact⟨o,by rw[bo.mp hb];exact ho,λv q=>by rw[hd]at q;cases q⟩
 keep:=λi h h' st k=>⟨st.1.imp λold he=>k e Zf _ he,st.2.1.at λo q=>UY o q,st.2.2⟩
 item:=by
  ext cf;ext bF;have LY:it<s.heap.objs.size:=by obtain⟨_,q,_⟩:=hit;exact bT q
  have hai:a≠it:=λz=>by
   ext bY
   rw[c1]at c2;exact absurd c2 Zf
  have hea:e≠a:=λz=>by
   obtain⟨o2,q2,c2,_⟩:=p.isList;rw[←z,he]at q2;cases q2
   exact absurd c2 Zf
  have hiu:its.toArray[i]? =some u:=by simpa using hu
  have bG:i+1<its.toArray.size+1:=by have:=(atz.mp hiu).1;omega
  refine wpAny_pyNext_enum_itemD (i:=i+1) (aqi (A:=X.A.in1) (I.ok.hd hcalm) it a hai its.toArray) he ⟨Zb,hit,p.isList⟩ bG aK (by simp[aK,hea]) λy h' tk hy ho gy hT hsz hk=>?_;have eyu:y=u:=bY (hy.symm.trans hiu);subst eyu;refine⟨_,rfl,agd (s:={s with heap:=h',toks:=tk+1}) ho λjF L8 sb=>?_⟩;have uJ:jF.get? s.heap.objs.size=some {cls:=Xz,data:=.seq #[.int ((i+1 :Nat):Int) tk,y]}:=(sb.2 _ (oO kI)).trans hT;have new:WL (Wl ZeC) jF s.heap.objs.size ZeC:=
   ⟨ZkD,[.int ((i+1 :Nat):Int) tk,y],.cons Zs ZmR,ZhC⟩
  have I1:ZU (Wl ZeC) {s with heap:=jF,toks:=tk+1}:=
   I.CH (ch:=[e,it]) Zn8 hf ZC new
  refine⟨Ys,_,I1,rfl,ZoO,⟨⟨y,L8⟩,?_,aK⟩,λb hb=>?_⟩
  ·exact gy.2.1.at λo q=>(sb.2 it (qp aK)).trans q
  ·have fi:b<s.heap.objs.size:=by
    rcases aJ.mp hb with z|z
    ·rw[z];exact kI
    ·rw[bo.mp z];exact LY
   rw[ax (eB fi)];exact(hf b hb).1
 done:=by
  ext cf;obtain⟨⟨old,he⟩,hit,aK⟩:=st;obtain⟨xs,hq,hx⟩:=hg;obtain⟨its,rv,p,hz⟩:=UL;ext a6;have hl:=rv.length;have hai:a≠it:=λz=>by
   ext bY
   rw[c1]at c2;exact absurd c2 Zf
  refine wpAny_pyNext_enum_endD (n:=i+1) (P:=λ_ _=>False) (St:=λm h=>m=i+1/\Ze3 a i/\h.IsList a its.toArray) (fp:=[it,a]) ⟨λm h st=>let⟨o,ho,_⟩:=st.2.1;⟨o,ho⟩,λm h h' st k=>⟨st.1,st.2.1.at λo q=>UY o q,st.2.2.at λo q=>k a Zf o q⟩,λm s Q E hm st _=>?_,λs Q E st hE=>?_⟩ he ⟨rfl,hit,p.isList⟩ λh' eb=>ZoW
  ·have:=st.1;omega
  ·exact wpAny_nextOf_list_end (I.ok.hd hcalm) st.2.1 st.2.2 (by simp;omega) hE
 self:=λA i s Q E st h=>let⟨⟨_,he⟩,_⟩:=st;HB he h
def EL(K:PySem.W.Frag)(ta:TA):TI:=fun σ H R=>Xc H λvs H1=>∃a xs,vs=[.ref a]/\Ux/\R (Pl K a) H1
theorem art{M:Model}{A:Around}{E:Zu}{s:Shared}{env:Env}{pos:Pos}{e:Expr}{t9:List Keyword}{Q:Zu}
  (h:Vm (spliced (Xb ZeJ)) (λvs s₁=>Vm (evalAll ((ZbH ZcC).map ZZ)) (λkvs s₂=>Vm (call Ud vs (((ZbH ZcC).filterMap Zh).zip kvs)) Q E s₂) E s₁) E s)
  (he:Xb ZeJ=(false,eval e env)::Xb (starEach [] env)) (cC:(Xb ZeJ).any Zh=false)
  (dB:(ZbH ZcC).all (·.1.isSome)=true) (hkw:(ZbH ZcC).any (·.1.isNone)=false):
  wpAny M A (callWith pos Ud [] (Xb ZeJ) (ZbH ZcC)) Q E s:=by
 have h2:Vm (evalArgs Ud true (Xb ZeJ) (ZbH ZcC)) (λa s₁=>Vm (call Ud ([]++a.pos) a.kw) Q E s₁) E s:=by rw[he]at h⊢;exact evalArgs_kwB dB h
 unfold callWith;refine aj (nH (gL h2 (λa s₁ h₁=>aj (Cv ?_)) λ_ _ x=>x));simp only[cC,hkw,PD];exact aj (aL (aj (gL h₁ (λr s₂ hr=>aj (nH (wpAny_point (aL hr)))) λ_ _ x=>x)))
theorem aim{X:Cx}{e:Expr}{ta:TA}{p pos fQ kp cp:Pos}{elts:Ya}{kk j:Nat}(K:PySem.W.Frag)(hg:ZmW)(hm:Zlw)(ha:PA X [e] ta)(hK:X.K=K:=by rfl)
  (hs:starEach [e] X.env=[(false,Yz)]:=by rfl):
  PI X VC (.Call (.Name "enumerate" p) [e] [⟨some "start",.Constant Vv j cp,kp⟩] pos) (EL K ta):=by
 subst hK;ext w;refine sD (Zdg boot_enumerate ?_ Zj Zj);refine art ?_ (by rw[hs];rfl) (by rw[hs];rfl) rfl rfl;refine aN ZgL λus s1 ⟨vs,H1,I1,r1,q1⟩=>?_;obtain⟨a,xs,ex,hq,q⟩:=q1;subst ex;refine kws_cons (aN (aR pins s1 σ H1 (λv H2=>v=.int 1/\H2=H1) I1 Uv) λcv s2 ⟨v,H2,I2,r2,e1,e2⟩=>kws_nil ?_);subst e1 e2;obtain⟨tk,rfl⟩:=r2;cases r1 with
 |cons r rr=>
  cases rr
  cases r
  obtain⟨its,rv,p',hz⟩:=I2.list hq;show YI (call Ud [.ref a] (vx (Vv tk))) _ _ s2;refine arq p'.isList λh' he hit hk=>HB he ?_;refine⟨s2.heap.objs.size+1,[s2.heap.objs.size+1,s2.heap.objs.size],_,_,H2,rfl,I2.kept (t':=s2.toks) hk,agH a (s2.heap.objs.size+1) s2.heap.objs.size,Zpu,λb hb=>?_,q⟩;have hle:s2.heap.objs.size<=b:=by
   rcases aJ.mp hb with z|z
   ·rw[z];exact Nat.le_succ _
   ·rw[bo.mp z];exact ZC
  exact I2.qe hle (I2.aC.fresh hle)
section
variable {K:PySem.W.Frag}{a:Addr}{g:TG}{tb:TS}{D:Ends}{σ:L2.St}{H:Hp}
theorem aox(xs:Ze)(Pv:Zag)(h0:ZaM)(hl:Zkb)
  (hs:∀(i:Nat) x T σ H,xs[i]? =some x->X6->H T=none->ZiJ (Zw T ZeC) fun σ2 H2=>tb {D with nx:=Pv (i+1),ct:=Pv (i+1),bk:=D.nx} σ2 H2) (hd:Zcl):qu (Pl K a) g tb D σ H:=by
 refine Zgx
 ·ext Z
 ·ext b3
end
end
local macro_rules | `(tactic| simp! [$xs,*]) => `(tactic| simp only [o9, v_, qF, nM, lL, wW, tF, wd, sP, wm, lM, vY, nO, lD, nN, vP, vS, zy, tC, tB, wt, vV, vW, wq, vU, zA, wb, sJ, wk, sO, sM, tH, tG, wR, tI, tJ, jT, rI, wY, wG, we, nU, wO, wU, wo, yz, wV, wX, wQ, o_, qH, sI, vR, tE, vT, vX, zB, zC, ui, uh, uj, EL, xB, ug, EK, xA, vN, sQ, ud, vO, rU, vQ, tD, wj, wg, zD, pb, qG, sN, yB, yA, Nat.succ_eq_add_one, uR, wD, zP, zQ, zO, V.str.injEq, wB, xm, mU, AI, Bs, fold_succ, List.set_cons_zero, List.set_cons_succ, List.getElem?_cons_zero, List.getElem?_cons_succ, Option.some.injEq, exists_eq_left', exists_eq_left, exists_and_left, and_assoc, true_and, and_true, V.bl.injEq, HO.lst.injEq, HO.ins.injEq, HO.tup.injEq, V.ref.injEq, V.int.injEq, decide_true, decide_false, if_true, if_false, List.cons.injEq, Bool.false_eq_true, au, jP, exists_const, exists_eq', exists_eq, and_self, List.append_nil, List.nil_append, List.cons_append, List.append_assoc, L2.start, List.map_cons, List.map_nil, List.length_cons, List.length_nil, Nat.zero_add, Nat.reduceAdd, Nat.reduceSub, List.replicate_succ, List.replicate_zero, wipe, $xs,*])
section
open Vbwbal (text decimal roleAt stepAt MOST)
abbrev asE:Zc:=["plan","answer","name","roles","most"]
theorem RY:aV asE Gq (aA Jf):=Zl
def ln(b:Za):Za:=b.length::b
def tQ(P:Plan):Za:=P.roles.length::(P.roles.flatMap ln++(P.persons.length::(P.persons.flatMap (λx=>ln x.name++(ln x.roles++[x.most]))++(P.steps.length::P.steps.flatMap λx=>ln x.name++ln x.roles))))
def QQ(A:Ad):Sp:=λvs H Q _=>∃(p:Addr) (i:aW) (P:Plan),vs=[.ref p]/\Y4/\ZG/\∀(H':Hp) (l:Addr),Zd->H l=none->H' l=some (.lst (nats (tQ P)))->(tQ P).length <=2000->Z0 H'
theorem o4{H:Hp}{a:Addr}{b:Za}{Q:VK}{E:XK}(ha:H a=some (.lst (nats b)))(hl:b.length<=2000000)(k:∀H' l,Zd->H l=none->H' l=some (.lst (nats (ln b)))->Z0 H'):kR [.ref a] H Q E:=
 ⟨a,nats b,rfl,ha,by rw[bA];exact hl,λH' l s h0 h=>k H' l s h0 (by rw[h,bA];rfl)⟩
theorem HS{H:Hp}{n:Bytes}{Q:VK}{E E':XK}(hn:n.length<=100000)(k:∀H' l,Zd->H l=none->H' l=some (.lst (nats (ln n)))->Z0 H'):C6 [aE n] H (λy H1=>kR [y] H1 Q E) E':=
 ⟨n,rfl,hn,λH1 l1 s1 h1 e1=>o4 e1 Zb λH2 l2 s2 h2 e2=>k H2 l2 YN (s1.free h2) e2⟩
theorem ap7{H H0:Hp}{l x:Addr}{a b:Za}(s:ZQ H0)(hl:H l=none)(h0:H0 l=some (.lst (nats a))):ZQ ZqZ/\ZqZ l=some (.lst (nats (a++b))):=
 ⟨bV s hl (gf h0),by rw[au,lg]⟩
theorem Nq{α:Type}{f:α->Za}{n:Nat}:∀{l:ZN},(∀x∈l,(f x).length <=n)->(l.flatMap f).length <=n*l.length
 |[],_=>ZI
 |a::r,h=>by have h1:=h a aY;have h2:=Nq (l:=r) λx hx=>h x ZaS;rw[iR,bS,bb,Nat.mul_succ];omega
theorem FK{α:Type}{f:α->Za}{l:ZN}{i:Nat}{x:α}(h:l[i]? =some x):(l.take YU).flatMap f=(l.take i).flatMap f++f x:=by rw[dA h,oQ];simp
theorem FL{α:Type}{f:α->Za}{n:Nat}{l:ZN}(m:Nat)(h:∀x∈l,(f x).length <=n):((l.take m).flatMap f).length <=n*l.length:=
 cq (Nq λx hx=>h x (Cj hx)) (Nat.mul_le_mul_left n (by rw[eY];exact Nat.min_le_right _ _))
section
variable {P:Program}{w:World}{K:PySem.W.Frag}{mg:Zy}{base:Heap}{A:Ad}
theorem aji{f:Addr}{fd:FuncData}(T:Zm)(rY:Zv "bytes_of" B4 1 C6)(dZ:Ub)
  (F:Zo "shown_names" "shown_names" Jf f fd):X5 Gq (QQ A):=by
 have nd:=RY.nd;refine F.ok RY Zk Zn
 ·ext ar
 ·ext ap;ext c;have n1:=Zbs;have n2:=Zbn;have n3:=Zhj;have n4:=Zh5;have n5:=Ui;have n6:=Zhu;have h8:=wf.roles;have h7:=wf.persons;have h7s:=wf.steps;obtain⟨fr,jA⟩:∃fr:Bytes->Za,fr=ln:=Zs;obtain⟨fp,oA⟩:∃fp:Vbwbal.Person->Za,fp=λx=>ln x.name++(ln x.roles++[x.most]):=Zs;obtain⟨fs,rN⟩:∃fs:Vbwbal.Step->Za,fs=λx=>ln x.name++ln x.roles:=Zs;have lr:∀x∈P.roles,(fr x).length <=13:=λx hx=>by have:=wf.tq x hx;rw[jA];unfold ln;rw[bb];omega
  have lp:∀x∈P.persons,(fp x).length <=23:=λx hx=>by have:=wf.pC x hx;have:=wf.mO x hx;rw[oA];unfold ln;simp only[bS,bb,jK];omega
  have ls:∀x∈P.steps,(fs x).length <=22:=λx hx=>by have:=wf.sS x hx;have:=wf.qK x hx;rw[rN];unfold ln;simp only[bS,bb,jK];omega
  have lrt:=λm=>FL m lr;have lpt:=λm=>FL m lp;have lst:=λm=>FL m ls;refine⟨_,(ao (W2 (bh (aa (Xd Zct) ai)))
   (ao (dN dF rfl (ZV Yp) VO (ak (dU (Uj ZE (aa Zod ai)))))
   (ao ZqT
   (ao (dN dF rfl (aih K rfl T.tR (Vr Zgb)) (i4 3 K rfl (dn VO (dn VI (dn WT iZ)))) (ak (dU (Uj ZE (aa (cR k0 ZpT (bh ZaD)) ai)))))
   (ao ZqT
   (ao (dN dF rfl (Ah K rfl T.tR Zgb) Zck (ak (dU (Uj ZE (aa ZpT ai)))))
   (ak (ay (pv 1))))))))),?_⟩
  simp! [hP.ins,T.bU,n1,nX];refine⟨_,.inl ⟨_,Znp,(aq _).symm⟩,X2,λl hl=>?_⟩;have s1:ZQ (XZ (.lst [nat P.roles.length])):=a0 hl;have fj:=ZbR;ext bu;obtain⟨Pv,aB⟩:∃Pv:Nat->L2.St->Hp->Prop,∀m σ H',YK H'↔∃(v2 v3 v4:ZM),σ=[some Z7,some Z6,v2,v3,v4]/\Zd/\H' l=some (.lst (nats (P.roles.length::(P.roles.take m).flatMap fr))):=Yg;refine⟨⟨_,ag.of fj.roles⟩,gH (P.roles.map aE) Pv ((Zi _).mpr ⟨none,none,none,rfl,s1,by rw[au];simp[nats]⟩) (λi σ H' _ hv=>let⟨_,_,_,_,s2,_⟩:=(Zi _).mp hv;ag.of (hP.same s2).roles) ?_ ?_⟩
  ·intro m x σ H2 hx hv;ext cU;obtain⟨n,hn,rfl⟩:=UD;have hnm:=wf.tq n (bI hn);have Fc:=lrt m;simp! [cQ bH];refine HS Zb λH3 l3 s3 xU b0=>⟨l3,rfl,_,ZjA,_,b0,?_,?_⟩
   ·ext bd
   ·obtain⟨q1,q2⟩:=ap7 (x:=l3) (b:=ln n) Zfx hl ZjA;refine(Zi _).mpr ⟨_,_,_,rfl,q1,?_⟩;rw[q2,FK hn,jA];rfl
  ·intro σ H2 hv;ext cU;rw[aq,eg]at bH;have gX:=Zf1;have hlr:=lrt P.roles.length;rw[eg]at hlr;simp! [cQ bH,gX.ins,T.bU,n2,kZ];refine⟨_,ZpG,_,bH,by rw[bA,bb];omega,?_⟩;obtain⟨pre,jv⟩:∃pre,pre=P.roles.length::P.roles.flatMap fr:=Zs;have auT:pre.length<=200:=by rw[jv,bb];omega
   rw[←jv]at bH⊢;have s3:ZQ (YD l (.lst (nats pre++[nat P.persons.length]))):=bV s2 hl (gf bH);have Bh:=hP.same s3;obtain⟨rs,gS,gR⟩:=id hP.pr;simp! [Bh.ins,T.bU,n2,n3,n4,kZ,DW,Ac];refine⟨_,ag.of Bh.persons,_,ag.of (s3.at gS),_,ag.of Bh.eF,?_⟩;obtain⟨Pw,cj⟩:∃Pw:Nat->L2.St->Hp->Prop,∀m σ H',Pw m σ H'↔∃(v2 v3 v4:ZM),σ=[some Z7,some Z6,v2,v3,v4]/\Zd/\H' l=some (.lst (nats (pre++P.persons.length::(P.persons.take m).flatMap fp))):=Yg;refine aov ZgV W9 Zkg Zk1 (by rw[aq,aq]) Pw ((Yl _).mpr ⟨v2,v3,v4,rfl,s3,by rw[au,lg];simp[nats]⟩) (λi σ H' _ hv=>let⟨_,_,_,_,s4,_⟩:=(Yl _).mp hv;⟨ag.of (hP.same s4).persons,ag.of (s4.at gS),ag.of (hP.same s4).eF⟩) ?_ ?_
   ·intro m x y u Tp σ H4 hx hy hu hv hTp;ext cX;obtain⟨pe,da,rfl⟩:=UD;obtain⟨ra,iF,rfl⟩:=Wr;obtain⟨pe',AW,rfl⟩:=get_map hu;rw[da]at AW;cases AW
    obtain⟨rl,fG,eS⟩:=gN gR iF;rw[cx,da]at fG;cases fG
    have eS:H ra=some (.lst (nats pe.roles)):=eS;have jw:=bI da;have e1:=wf.pC pe jw;have e2:=wf.mO pe jw;have Fc:=lpt m;have s5:ah H4 (U7 Tp (.tup [aE pe.name,.ref ra,nat pe.most])):=Za7;have ji:=ZaA;ext r;simp! [cQ (s5.at ik)];refine HS Zb λH6 l6 s6 au6 fY=>o4 (s6.at (ji.at eS)) Zb λH7 l7 s7 acF pV=>⟨l6,rfl,l7,rfl,_,s7.at fY,_,pV,?_,λl8 ly=>⟨X2,λl9 A5=>?_⟩⟩
    ·ext bd
    ·have s8:ah H7 ZoI:=a0 ly;have s9:ah H7 (upd ZoI l9 (.lst [nat pe.most])):=bV s8 (s8.free A5);have am9:l8≠l9:=λe=>by rw[←e,au]at A5;cases A5
     refine⟨_,by rw[ax am9];exact au,?_,λl10 xV=>?_⟩
     ·ext a2
     ·have tm:=bV (o:=.lst ((nats (ln pe.name)++nats (ln pe.roles))++[nat pe.most])) s9 (s9.free xV);have sA:=((s5.trans s6).trans s7).trans tm;have A4:=sA.at ik;refine⟨_,A4,?_,?_⟩
      ·ext a2
      ·refine(Yl _).mpr ⟨_,_,_,rfl,bV (s4.trans sA) hl (gf A4),?_⟩;rw[au,FK da,oA];simp only[lg,KG,KD,eC,oS]
   ·intro σ H4 hv;ext cX;rw[aq,eg]at ik;have yb:=hP.same s4;have m_:=lpt P.persons.length;rw[eg]at m_;simp! [cQ ik,yb.ins,T.bU,n5,kY];obtain⟨mid,LL⟩:∃mid,mid=pre++P.persons.length::P.persons.flatMap fp:=Zs;have auY:mid.length<=500:=by rw[LL,bS,bb];omega
    rw[←LL]at ik;refine⟨_,.inl ⟨_,ZnN,(aq _).symm⟩,_,ik,by rw[bA];omega,?_⟩;have s5:ZQ (U7 l (.lst (nats mid++[nat P.steps.length]))):=bV s4 hl (gf ik);have hP5:=hP.same s5;obtain⟨rt,AQ,AO⟩:=id hP.sr;simp! [hP5.ins,T.bU,n5,n6,kY,DV];refine⟨_,ag.of hP5.steps,_,ag.of (s5.at AQ),?_⟩;obtain⟨Px,Bf⟩:∃Px:Nat->L2.St->Hp->Prop,∀m σ H',Px m σ H'↔∃(v2 v3 v4:ZM),σ=[some Z7,some Z6,v2,v3,v4]/\Zd/\H' l=some (.lst (nats (mid++P.steps.length::(P.steps.take m).flatMap fs))):=Yg;refine Bq Zkt (rt.map V.ref) (by rw[aq,aq,du AO,aq]) Px ((Bf _ _ _).mpr ⟨v2,v3,v4,rfl,s5,by rw[au,lg];simp[nats]⟩) (λi σ H' _ hv=>let⟨_,_,_,_,s6,_⟩:=(Bf _ _ _).mp hv;⟨ag.of (hP.same s6).steps,ag.of (s6.at AQ)⟩) ?_ ?_
    ·intro m x y Tp σ H6 hx hy hv hTp;ext cK;obtain⟨st,aT,rfl⟩:=UD;obtain⟨ra,iF,rfl⟩:=Wr;obtain⟨rl,fG,eS⟩:=gN AO iF;rw[cx,aT]at fG;cases fG
     have eS:H ra=some (.lst (nats st.roles)):=eS;have jw:=bI aT;have e1:=wf.sS st jw;have e2:=wf.qK st jw;have Fc:=lst m;have s7:ah H6 (upd H6 Tp (.tup [aE st.name,.ref ra])):=Za7;have s67:=ZiU;ext r;simp! [cQ (s7.at fY)];refine HS Zb λH8 l8 s8 acE ly=>o4 (s8.at (s67.at eS)) Zb λH9 l9 s9 au5 A5=>⟨l8,rfl,l9,rfl,_,s9.at ly,_,A5,?_,λl10 xV=>?_⟩
     ·ext bd
     ·have tm:ah H9 (upd H9 l10 (.lst (nats (ln st.name)++nats (ln st.roles)))):=a0 xV;have sA:=((s7.trans s8).trans s9).trans tm;have A4:=sA.at fY;refine⟨_,A4,?_,?_⟩
      ·ext a2
      ·refine(Bf _ _ _).mpr ⟨_,_,_,rfl,bV (s6.trans sA) hl (gf A4),?_⟩;rw[au,FK aT,rN];simp only[lg,KG,KD,eC,oS]
    ·intro σ H6 hv;ext cK;rw[aq,eg]at fY;have hls:=lst P.steps.length;rw[eg]at hls;have eN:tQ P=mid++P.steps.length::P.steps.flatMap fs:=by rw[LL,jv,jA,oA,rN];unfold tQ;simp only[eC,oS]
     ext a;refine k H6 l s6 hl (by rw[fY,eN]) ?_;rw[eN,bS,bb];omega
end
end
section
open Vbwbal (signer load goesWith fits unsigned subsets countWays)
abbrev ae6:Zc:=["record","options","word","pair"]
theorem Sj:aV ae6 Gz (aA Dq):=Zl
abbrev G6:Zc:=["record","options","person","share","step","first","second"]
theorem SV:aV G6 GP (aA wF):=Zl
abbrev afj:Zc:=["steps","step"]
theorem S3:aV afj GU (aA DD):=Zl
abbrev asR:Zc:=["counts","shares","found","given","share"]
theorem Sm:aV asR GB (aA Js):=Zl
abbrev afe:Zc:=["record","options","choices","counts","person","shares","share"]
theorem SO:aV afe GL (aA Dz):=Zl
section
variable {X:Cx}
theorem aqu(K:PySem.W.Frag)(hc:XA)(hK:X.K=K:=by rfl):gJ X ZhY (tD K):=by subst hK;exact aqv hc
theorem aiA{pos:Pos}{k1 v1:Expr}{a1 b1:TE}(h1:Zt k1 a1)(g1:Zt v1 b1):Zt (.Dict [some k1] [v1] pos) (pb [(a1,b1)]):=
 aau (DU h1 g1 aaa) rfl rfl (afL _ _) (by show(1 :Nat)<=15;decide)
end
theorem arH(a b:Nat):Builtin.bitAnd (a:Int) (b:Int)=((a&&& b:Nat):Int):=by unfold Builtin.bitAnd;rw[bu (Pn a),bu (Pn b)];rfl
theorem ary(a b:Nat):Builtin.bitOr (a:Int) (b:Int)=((a|||b:Nat):Int):=by unfold Builtin.bitOr Builtin.bitAnd Builtin.bitNot;rw[aX (show¬(0 :Int)<= -(a:Int)-1 by omega),aX (show¬(0 :Int)<= -(b:Int)-1 by omega)];show -(-(((-(-(a:Int)-1)-1).toNat |||(-(-(b:Int)-1)-1).toNat :Nat):Int)-1)-1=_;rw[show -(-(a:Int)-1)-1=(a:Int) by omega,show -(-(b:Int)-1)-1=(b:Int) by omega,mD,mD];omega
def cntK(k:dz):Yb:=k.map λz=>(Sum.inl (z.1:Int),nat z.2)
theorem FV:∀{k:dz} {m:Nat},m∉k.map Zh->eO Zgw Zmd=none/\dH k m=0
 |[],m,_=>Uv
 |z::r,m,h=>by
  have h1:¬z.1=m:=λe=>h (by rw[cw,e];exact aY);obtain⟨q1,q2⟩:=FV (k:=r) (m:=m) λq=>h ZdV;have h2:¬(Sum.inl (z.1:Int):Key)=Sum.inl (m:Int):=λe=>h1 (mE (oN e));refine Zf4
  ·show ZpU _=none;rw[sF h2];exact q1
  ·show(if z.1=m then z.2 else 0)+dH r m=0;rw[ae h1,q2]
theorem FU:∀{k:dz} {g:Xr},(k.map Zh).Nodup ->g∈k->eO Zgw (Sum.inl (g.1:Int))=some (nat g.2)/\dH k g.1=g.2
 |z::r,g,hn,h=>by
  obtain⟨n1,n2⟩:=Zb9;rcases aJ.mp h with e|h
  ·subst e;refine Zf4
   ·show eO ((Sum.inl (g.1:Int),nat g.2)::cntK r) _=_;rw[zo rfl]
   ·show(if g.1=g.1 then g.2 else 0)+dH r g.1=g.2;rw[af rfl,(FV n1).2];rfl
  ·have h1:¬z.1=g.1:=λe=>n1 (by show z.1∈_;rw[e];exact aO.mpr ⟨g,h,rfl⟩);have h2:¬(Sum.inl (z.1:Int):Key)=Sum.inl (g.1:Int):=λe=>h1 (mE (oN e));obtain⟨q1,q2⟩:=FU n2 h;refine Zf4
   ·show ZpU _=_;rw[sF h2];exact q1
   ·show(if z.1=g.1 then z.2 else 0)+dH r g.1=g.2;rw[ae h1,q2,Cb]
theorem ad6{k:dz}(hn:(k.map Zh).Nodup)(m:Nat):(eO Zgw Zmd).getD (nat 0)=nat (dH k m):=by
 by_cases h:m∈k.map Zh
 ·obtain⟨g,hg,e⟩:=UO;obtain⟨q1,q2⟩:=FU hn hg;have e:g.1=m:=e;rw[←e,q1,q2];rfl
 ·obtain⟨q1,q2⟩:=FV h;rw[q1,q2];rfl
theorem aey{z:Xr}{r:dz}{m n:Nat}(h:¬z.1=m):jH (z::r) m n=z::jH r m n:=ae h
theorem aqJ{k:dz}(hn:(k.map Zh).Nodup)(m n:Nat):putK Zgw Zmd (nat (dH k m+n))=cntK (jH k m n):=by
 have acW:((cntK k).any λkv=>decide (kv.1=Sum.inl (m:Int)))=true↔m∈k.map Zh:=by
  rw[afN];ext b
  ·rintro⟨kv,h1,h2⟩;obtain⟨z,hz,rfl⟩:=aO.mp h1;exact aO.mpr ⟨z,hz,mE (oN (lX h2))⟩
  ·intro h;obtain⟨z,hz,e⟩:=UO;exact⟨_,Zbj,bu (by rw[←e])⟩
 unfold putK;by_cases h:m∈k.map Zh
 ·rw[af (acW.mpr h)];have key:∀(r:dz) (v:Nat),(r.map Zh).Nodup ->m∈r.map Zh->v=dH r m+n->(cntK r).map ZoQ=cntK Zjp:=by
   intro r
   induction r with
   |nil=>intro v _ hm;cases hm
   |cons z r ih=>
    intro v hr hm hv;obtain⟨n1,n2⟩:=df.mp hr;have hk:(cntK (z::r))=(Sum.inl (z.1:Int),nat z.2)::cntK r:=rfl;rw[hk,cw];by_cases e:z.1=m
    ·have e2:(Sum.inl (z.1:Int):Key)=Sum.inl (m:Int):=by rw[e]
     have hz:dH (z::r) m=z.2:=by have:=(FU hr (g:=z) aY).2;rw[e]at this;exact this
     have kC:(cntK r).map ZoQ=cntK r:=by
      refine(gv λkv eU=>?_).trans (G_ _);obtain⟨y,hy,rfl⟩:=aO.mp eU;rw[ae λq=>n1 (by have:y.1=m:=Zjr;show z.1∈_;rw[e,←this];exact aO.mpr ⟨y,hy,rfl⟩)]
      rfl
     rw[af e2,kC];unfold jH;rw[af e,hv,hz,e];rfl
    ·have e2:¬(Sum.inl (z.1:Int):Key)=Sum.inl (m:Int):=λq=>e Zjr;have kH:m∈r.map Zh:=(aJ.mp hm).resolve_left λq=>Uz;have hz:dH (z::r) m=dH r m:=by show(if z.1=m then z.2 else 0)+dH r m=_;rw[ae e,Cb]
     rw[ae e2,ih v n2 kH (by rw[hv,hz]),aey e];rfl
  exact key k _ hn h rfl
 ·rw[ae λq=>h (acW.mp q),(FV h).2,Cb];have key:∀r:dz,m∉r.map Zh->cntK r++[(Sum.inl (m:Int),nat n)]=cntK Zjp:=by
   intro r
   induction r with
   |nil=>intro _;rfl
   |cons z r ih=>
    intro hm;have e:¬z.1=m:=λq=>hm (by rw[cw,q];exact aY);rw[aey e];show _::(cntK r++_)=_::cntK Zjp;rw[ih λq=>hm ZdV]
  exact key k h
structure jM(k:dz):Prop where
 nd:(k.map Zh).Nodup
 lt:∀z∈k.map Zh,z<128
theorem jM.len{k:dz}(h:jM k):k.length<=128:=by have:=n9 128 _ h.nd h.lt;rw[aq]at this;exact this
theorem aqL{k:dz}(h:jM k){m n:Nat}(hm:m<128):jM (jH k m n):=by
 refine⟨?_,?_⟩<;>rw[aez]
 ·by_cases q:m∈k.map Zh
  ·rw[af q];exact h.nd
  ·rw[ae q];exact El h.nd q
 ·intro z hz;by_cases q:m∈k.map Zh
  ·rw[af q]at hz;exact h.lt z hz
  ·rw[ae q]at hz;rcases b8.mp hz with y|y
   ·exact h.lt z y
   ·rw[bo.mp y];exact hm
theorem aqI{f:dz}(h:jM f){g:Xr}{s:Nat}(hg:g.1<128)(hs:s<128):jM (jg f g s):=by
 unfold jg;split
 ·exact aqL h (arz hg hs)
 ·exact h
theorem NY{g:Xr}(hg:g.1<128):∀(ss:Za) (f:dz),jM f->(∀s∈ss,s<128)->jM Zny
 |[],f,h,_=>h
 |s::r,f,h,hs=>NY hg r _ (aqI h hg (hs s aY)) λt ht=>hs t (ZD ht)
theorem NZ(ss:Za)(hs:∀s∈ss,s<128):∀(k f:dz),jM f->(∀z∈k.map Zh,z<128)->jM (k.foldl (λf g=>Zny) f)
 |[],f,h,_=>h
 |g::r,f,h,hk=>NZ ss hs r _ (NY (hk g.1 aY) ss f h hs) λz hz=>hk z Zgv
theorem aqK{k:dz}{ss:Za}(h:jM k)(hs:∀s∈ss,s<128):jM (xi k ss):=NZ ss hs k [] ⟨sq,λz hz=>Vd⟩ h.lt
def Q3(A:Ad):Sp:=λvs H Q _=>∃(r d:Addr) (i:bC) (j:aW) (P:Plan) (ab:Za) (c:Choice) (o:cz) (word:Str) (a:Addr) (ps:ZX),vs=[.ref r,.ref d,.str word]/\YM/\Za1/\(keys o).Nodup /\
 bZ H j.d (.str word) Zf3/\U3 ps/\ps.length<=12/\∀(H':Hp) (l:Addr),Zd->H l=none->g8 H' l (jV ps XS)->Z0 H'
def Rk(A:Ad):Sp:=λvs H Q _=>∃(r d a:Addr) (i:bC) (j:aW) (P:Plan) (ab:Za) (c:Choice) (x:Nat) (sh:Za),vs=[.ref r,.ref d,nat x,.ref a]/\YM/\ZG/\Xm/\fO H d XH/\x<P.persons.length/\
 H a=some (.lst (nats sh))/\(∀s∈sh,s∈Z9 c)/\sh.length<=7/\∀(H':Hp),Zd->Q (.bl (UJ x sh)) H'
def Ro:Sp:=λvs H Q _=>∃(a:Addr) (ss:Za),vs=[.ref a]/\H a=some Zan/\ss.Nodup/\(∀s∈ss,s<7)/\∀(H':Hp),Zd->Q (nat (bits ss)) H'
def Q5:Sp:=λvs H Q _=>∃(d l:Addr) (k:dz) (ss:Za),vs=[.ref d,.ref l]/\H d=some (.dK Zgw)/\jM k/\H l=some Zan/\(∀s∈ss,s<128)/\
 ∀(H':Hp) (d':Addr),Zd->H d'=none->H' d'=some (.dK (cntK (xi k ss)))->Zjh H'
def Rh(A:Ad):Sp:=λvs H Q _=>∃(r:Addr) (i:bC) (j:aW) (P:Plan) (ab:Za) (c:Choice),vs=[.ref r]/\YM/\ZG/\Xm/\∀(H':Hp),Zd->Q (nat (ZcU Z8 c)) H'
theorem adL{H:Hp}{kvs:Yb}{o:cz}(h:Zam o)(hn:Ze8)(s:Nat):(W4 Zhn).isSome =(keys o).contains s:=by
 by_cases hs:s∈keys o
 ·obtain⟨p,hp,e⟩:=aO.mp hs;have e:p.1=s:=e;obtain⟨r,e1,_⟩:=qV h hn (show(s,p.2)∈o by rw[←e];exact hp);rw[e1,bx.mpr hs];rfl
 ·rw[Kq h hs];exact(af0.mpr λq=>hs (bx.mp q)).symm
section
variable {P:Program}{w:World}{K:PySem.W.Frag}{mg:Zy}{base:Heap}{A:Ad}
theorem akl{f:Addr}{fd:FuncData}(T:Zm)(F:Zo "as_bits" "as_bits" DD f fd):Z4 GU Ro:=by
 have nd:=S3.nd;refine F.ok S3 Zk Zn
 ·obtain⟨a,ss,rfl,_⟩:=h;rfl
 ·obtain⟨a,ss,rfl,ha,hn,h7,k⟩:=h;have hl:=n9 7 ss hn h7;refine⟨_,(ak (ay (bW (aqu K rfl) Vq T.aaX arJ (aa (dW (own:=[("step",1)]) rfl nd Zga (show cB afj (aA DD) _ _ from Yi) Zes Xe (λ_ _ _ _ _=>(cR aiN aR ZE))) ai)))),?_⟩;ext a;refine⟨UB,e8 (zs:=ss) Xg XF Zb Xa (λs=>nat (2 ^ s)) Zbd Va⟩
  ·ext o
   have Fu:=h7 z Xv;have e:V.int (1*2 ^ ((z:Int)).toNat)=nat (2 ^ z):=by rw[mD,Int.one_mul];unfold nat;rw[Int.natCast_pow];rfl
   ext a;refine⟨⟨Pn z,Zb,Zj⟩,?_⟩;rw[e];exact bc rfl _ ZW
  ·refine⟨D,rfl,ss.map λs=>((2 ^ s:Nat):Int),ZgS,?_⟩;have e:(ss.map λs=>((2 ^ s:Nat):Int)).sum =((bits ss:Nat):Int):=by
    rw[(Og ss hn h7).2];clear h k ha hn h7 hl
    induction ss with
    |nil=>rfl
    |cons a r ih=>
     rw[cw,afq,ih];show _=((2 ^ a+Znq r:Nat):Int);rw[Int.natCast_add]
   rw[e];exact Wy
theorem ajE{f:Addr}{fd:FuncData}(T:Zm)(F:Zo "open_pairs" "open_pairs" Dq f fd):Z4 Gz (Q3 A):=by
 have nd:=Sj.nd;refine F.ok Sj Zk Zn
 ·obtain⟨r,d,i,j,P,ab,c,o,word,a,ps,rfl,_⟩:=h;rfl
 ·obtain⟨r,d,i,j,P,ab,c,o,word,a,ps,rfl,hR,hO,hn,dg,hp,hl,k⟩:=h;have hu:=gi hr;ext v;have n2:=Zaq;obtain⟨rs,dv,kD⟩:=hp;obtain⟨kvs,hd,eU⟩:=hO;have cE:(rs.zip ps).length =ps.length:=by rw[List.length_zip,du kD];omega
  have fF:(rs.zip ps).map Zh=rs:=List.map_fst_zip (by rw[du kD];exact ZC);have ma:(rs.zip ps).map ZZ=ps:=List.map_snd_zip (by rw[du kD];exact ZC);have acg:∀z∈rs.zip ps,H z.1=some ZrB:=λz hz=>by
   obtain⟨n,hn,e⟩:=y_.mp hz;rw[List.getElem_zip]at e;rw[cE]at hn;have h1:rs[n]? =some z.1:=by rw[←e];exact fP (by rw[du kD];exact hn)
   obtain⟨b,hb,q⟩:=gN kD h1;have h2:ps[n]? =some z.2:=by rw[←e];exact fP hn
   rw[hb]at h2;cases h2
   exact q
  refine⟨_,(ak (ay (dW (own:=[("pair",3)]) rfl nd (ZV (jj hu ZcI ZR Z3)) (show cB ae6 (aA Dq) _ _ from Yi) ZhL (λ_ _ _ _ _=>iX (PW.pt (Ka Zpd (J_ Zpd)))) (λ_ _ _ _ _=>ZH)))),?_⟩;simp! [hR.ins,T.dD,n1,lR,hR.plan.ins,T.bU,n2,nY];refine⟨_,dg,a,rfl,⟨_,ag.of dv⟩,e8 (zs:=rs.zip ps) (ag.of dv) (by rw[aq,cE,du kD]) Zb (λz=>(keys o).contains z.2.1&&(keys o).contains z.2.2) (λz=>V.ref z.1) Zbd Va⟩
  ·ext bn;have hza:z.1=ra:=by
    have:((rs.zip ps).map Zh)[m]? =some z.1:=by rw[cx,hz];rfl
    rw[fF,iF]at this;exact(bY this).symm
   subst hza;have ht:=s1.at (acg z Xv);have xY:=s1.at hd;have d1:bZ H' d (nat z.2.1) (W4 (Sum.inl (z.2.1:Int))):=bZ.k (k:=Sum.inl (z.2.1:Int)) xY;have d2:bZ H' d (nat z.2.2) (W4 (Sum.inl (z.2.2:Int))):=bZ.k (k:=Sum.inl (z.2.2:Int)) xY;ext a;refine⟨_,ZdN,_,bQ (j:=0) rfl,_,d1,?_⟩;rw[adL eU hn];have kz:((keys o).contains z.2.1&&(keys o).contains z.2.2)=((keys o).contains z.2.1&&(keys o).contains z.2.2):=rfl;cases e1:(keys o).contains z.2.1 with
   |false=>
    exact aF (hS (by rw[e1];rfl) _ ZW)
   |true=>
    refine aI ⟨_,ZdN,_,bQ (j:=1) rfl,_,d2,?_⟩;rw[adL eU hn];cases e2:(keys o).contains z.2.2 with
    |false=>exact aF (hS (by rw[e1,e2];rfl) _ ZW)
    |true=>exact aI (bc (by rw[e1,e2];rfl) _ ZW)
  ·refine Zfu ⟨((rs.zip ps).filter λz=>(keys o).contains z.2.1&&(keys o).contains z.2.2).map Zh,by rw[h,bz];rfl,?_⟩;have:jV ps XS=((rs.zip ps).filter λz=>(keys o).contains z.2.1&&(keys o).contains z.2.2).map ZZ:=by
    conv=>lhs;rw[←ma]
    unfold jV;rw[vt];rfl
   rw[this];have key:∀l:List (Addr×(Nat×Nat)),(∀z∈l,H z.1=some ZrB)->Paired (λr (p:Nat×Nat)=>H' r=some Zj8) (l.map Zh) (l.map ZZ):=by
    intro l
    induction l with
    |nil=>intro _;exact .nil
    |cons z r ih=>intro hq;exact .cons (s1.at (hq z aY)) (ih λy hy=>hq y ZdI)
   exact key _ λz hz=>acg z (bD.mp hz).1
end
end
section
open Vbwbal (signer load goesWith fits unsigned subsets countWays)
theorem atE{a b:Bool}:qL (.bl a) WB=true:=rfl
theorem aqm(a b:Bool):decide (V.bl a=V.bl b)=(a==b):=by cases a<;>cases b<;>rfl
section
variable {P:Program}{w:World}{K:PySem.W.Frag}{mg:Zy}{base:Heap}{A:Ad}
theorem akc{f:Addr}{fd:FuncData}(T:Zm)(p7:ZkP)(FC:Zv "open_pairs" Gz 1 (Q3 A))(F:Zo "can_take" "can_take" wF f fd):X5 GP (Rk A):=by
 have nd:=SV.nd;refine F.ok SV Zk Zn
 ·obtain⟨r,d,a,i,j,P,ab,c,x,sh,rfl,_⟩:=h;rfl
 ·obtain⟨r,d,a,i,j,P,ab,c,x,sh,rfl,hR,wf,wc,hO,hx,ha,gj,hl,k⟩:=h;have hu:=gi hr;have rM:=xy P ab c;have hn:(keys XH).Nodup :=by rw[rM];exact Vt
  refine⟨_,(ao (bg (bN pD (Xd X4) (az p7 hr rfl (ZL Y7)) ZO) Ut bp)
   (ao (bg (eR (Z5 (Zeh (aa (dW (own:=[("step",4)]) rfl nd (ZV ZH) ZqL Zcr Xe (λ_ _ _ _ _=>(eE VZ ZR (jj hu ZE Yh Z3) rfl))) ai)) Z2)) Ut bp)
   (ao (bg (Z5 (ZgW (aa (dW (own:=[("first",5),("second",6)]) rfl nd (ZV (az FC hr rfl (ZL (Xl (aa cW ai))))) ZqL (λ_ _ _ _ _=>Zo9) Xe (λ_ _ _ _ _=>(lT (eE VZ W3 ZH rfl) (mR (eE VZ Za4 ZH rfl))))) ai)) Z2) Ut bp)
   (ak (ay (bW (uY K rfl) (by rfl) T.rg u_ (aa (dW (own:=[("first",5),("second",6)]) rfl nd (cf K (az FC hr rfl (aa (pv 0) (aa (pv 1) (aa cW ai))))) (show cB G6 (aA wF) _ _ from cP (by decide+kernel)) (λ_ _ _ _ _=>(i4 2 K rfl (dn (aZ 5 nd) (dn (aZ 6 nd) iZ)))) (λ_ _ _ _ _=>fU) (λ_ _ _ _ _=>(eE cS (eE (km K) (pv 5) (pv 3) rfl) (eE (km K) (pv 6) (pv 3) rfl) (bB _)))) ai))))))),?_⟩
  ext a;refine⟨_,.inl ⟨_,Xg,(bA _).symm⟩,r,i,j,P,ab,c,x,rfl,hR,wc,hx,_,rfl,?_⟩;unfold mJ at k;by_cases h1:(sh.length:Int)<=(cy P x:Int)-(load c x:Int)
  ·rw[bu h1,fm]at k;have Bk:decide ((cy P x:Int)-(load c x:Int)<(sh.length:Int))=false:=aX Zb;rw[Bk];refine aF ⟨UB,e8 (zs:=sh) Xg XF Zb Xa (λt=>.bl ((ZJ t).contains x)) Zbd (λD H1 hD s1 h=>?_)⟩
   ·ext o
    obtain⟨kvs,hd,eU⟩:=hO.same s1;have cO:(z,ZJ z)∈UX c:=aO.mpr ⟨z,gj z Xv,rfl⟩;obtain⟨q,e1,e2⟩:=qV eU hn cO;have dg:bZ H' d (nat z) (some XO):=by rw[←e1];exact bZ.k (k:=Sum.inl (z:Int)) hd
    ext a;exact⟨_,dg,nW e2 ZcS⟩
   ·ext E;refine⟨D,rfl,sh.map λt=>(ZJ t).contains x,Zcx,_,rfl,?_⟩;rw[mB];have e0:(sh.all (id∘λt=>(ZJ t).contains x))=sh.all λt=>(ZJ t).contains x:=rfl;rw[e0];cases h2:(sh.all λt=>(ZJ t).contains x)with
    |false=>
     rw[h2,gK]at k;exact aI (k H1 s1)
    |true=>
     rw[h2,fm]at k;have fK:=XB;have uL:=hO.same s1;have dg1:bZ H1 j.d (.str "unlike") (some (.ref j.u)):=Zep fK.plan.pairs;refine aF ⟨r,d,i,j,P,ab,c,_,"unlike",j.u,P.unlike,rfl,fK,uL,hn,dg1,fK.plan.unlike,wf.unlike,λH2 l2 s2 LU dP=>?_⟩;rw[rM]at dP;have cD:=YN;obtain⟨rs,dv,kD⟩:=dP;have hop:∀ps:List Xr,ps.length<=12->(jV ps Z8).length <=12:=λps h=>WN h;refine⟨l2,rfl,⟨_,ag.of dv⟩,e8 (zs:=ZfI Z8) (ag.of dv) (by rw[aq];exact du kD) (by have:=hop _ wf.unlike;omega) Xa (λy=>.bl (sh.contains y.1&&sh.contains y.2)) Zqs (λD2 H3 yi s3 h3=>?_)⟩
     ·ext bn;obtain⟨z',br,ht⟩:=gN kD iF;ext O
      have rT:=(cD.trans s3).at ha;refine⟨ra,_,rfl,bM.of (s3.at ht),rfl,?_⟩;ext a;refine nW rT Yy;have hq:=bc rfl H' ZW;cases e1:sh.contains z.1 with
      |false=>
       rw[e1,gK]at hq;exact aF hq
      |true=>
       rw[e1,fm]at hq;exact aI (nW rT hq)
     ·rw[filter_all]at h3;refine⟨D2,rfl,(ZfI Z8).map λy=>sh.contains y.1&&sh.contains y.2,ag.of (by rw[h3,bz];rfl),_,rfl,?_⟩;rw[vw];have e3:((ZfI Z8).any (id∘λy=>sh.contains y.1&&sh.contains y.2))=(ZfI Z8).any λy=>sh.contains y.1&&sh.contains y.2:=rfl;rw[e3];have cG:=Zde;cases h4:((ZfI Z8).any λy=>sh.contains y.1&&sh.contains y.2)with
      |true=>
       rw[h4,qy,gK]at k;exact aI (k H3 cG)
      |false=>
       rw[h4,vE,fm]at k;have oC:=hR.same cG;have dg3:bZ H3 j.d (.str "alike") (some (.ref j.l)):=Zer oC.plan.pairs;refine aF ⟨r,d,i,j,P,ab,c,_,"alike",j.l,P.alike,rfl,oC,hO.same cG,hn,dg3,oC.plan.alike,wf.alike,λH4 l4 s4 ox rJ=>?_⟩;rw[rM]at rJ;ext aH;obtain⟨rt,rG,xN⟩:=rJ;refine⟨l4,rfl,⟨_,ag.of rG⟩,e8 (zs:=jV P.alike Z8) (ag.of rG) (by rw[aq];exact du xN) (by have:=hop _ wf.alike;omega) Xa (λy=>.bl (sh.contains y.1==sh.contains y.2)) (λm v z H' hv hz s5 R S bc hS=>?_) (λD4 H5 uN s5 h5=>?_)⟩
       ·ext bn;obtain⟨z',br,ht⟩:=gN xN iF;ext O
        have rT:=(jS.trans s5).at ha;refine⟨ra,_,rfl,bM.of (s5.at ht),rfl,?_⟩;ext a;refine nW rT (nW rT ZbJ);rw[aqm];exact bc rfl H' ZW
       ·rw[filter_all]at h5;refine⟨D4,rfl,(jV P.alike Z8).map λy=>sh.contains y.1==sh.contains y.2,ag.of (by rw[h5,bz];rfl),?_⟩;rw[mB];exact k H5 (jS.trans s5)
  ·rw[aX h1,gK]at k;rw[bu (show(cy P x:Int)-(load c x:Int)<(sh.length:Int) by omega)];exact aI UP
theorem ajH{f:Addr}{fd:FuncData}(T:Zm)(F:Zo "one_person_on" "one_person_on" Js f fd):Z4 GB Q5:=by
 have nd:=Sm.nd;refine F.ok Sm Zk Zn
 ·obtain⟨d,l,k,ss,rfl,_⟩:=h;rfl
 ·obtain⟨d,l,cn,ss,rfl,hd,ok,hl,jt,k⟩:=h;ext j;refine⟨_,(ao (WM DZ)
   (ao (T9 (dN dF rfl (Kh Yu) VI (ak (dN dF rfl (ZV ZE) WT (ak (bg (WG (cR aiV ZH Yh) aR ZO) (ak (Ab hu ZR (cR aaH ZH Yh) (cR n0 (aav hu ZR (cR aaH ZH Yh) aR ⟨rfl,rfl,rfl,rfl⟩) ZlL) rfl)) bp))))))
   (ak (ay (pv 2))))),?_⟩
  ext a;ext bN;obtain⟨Hf,pY⟩:∃Hf,Hf=upd ZcJ d (.bL od (.dK ZaP)):=Zs;rw[←pY];have sL:SameBut d ZcJ Hf:=by rw[pY];exact IS (s1.at hd)
  have ml:Hf d=some (.bL od (.dK ZaP)):=by rw[pY];exact au
  have fn:Hf n=some ZaR:=by rw[pY,ax Zh3];exact au
  have LR:l≠d:=Zr7;have A3:l≠n:=cg hl hn;have Fd:Hf l=some Zan:=sL.at LR (s1.at hl);obtain⟨G,hG⟩:∃G:dz->Nat×Nat->dz,G=λf g=>Zny:=Zs;have okT:∀m,jM ZsK:=λm=>by rw[hG];refine NZ ss jt _ [] ⟨sq,λz hz=>Vd⟩ λz hz=>ok.lt z ?_;obtain⟨y,hy,rfl⟩:=aO.mp hz;exact aO.mpr ⟨y,Cj hy,rfl⟩
  obtain⟨Pv,aB⟩:∃Pv:Nat->L2.St->Hp->Prop,∀m σ H',YK H'↔∃(v3 v4:ZM),σ=[some Wc,some Z6,some (.ref n),v3,v4]/\WV Hf H'/\H' n=some (.dK (cntK ZsK)):=Yg;refine⟨_,rfl,d,od,rfl,.inl ⟨ZaP,ml,adk ZaP Pv ((Zi _).mpr ⟨none,none,rfl,BP n Hf,fn⟩) (λi σ H' _ hv=>let⟨_,_,_,s2,_⟩:=(Zi _).mp hv;s2.at gU ml) ?_ ?_⟩⟩
  ·intro m z σ H2 hz hv;obtain⟨v3,v4,rfl,s2,fH⟩:=(Zi _).mp hv;obtain⟨g,hg,rfl⟩:=get_map hz;have hgm:=bI hg;have hg7:g.1<128:=ok.lt g.1 (aO.mpr ⟨g,hgm,rfl⟩);obtain⟨c1,c2⟩:=FU ok.nd hgm;have ok0:=okT m;obtain⟨f0,Fj⟩:∃f0,f0=(cn.take m).foldl G []:=Zs;rw[←Fj]at fH ok0;obtain⟨Pw,cj⟩:∃Pw:Nat->L2.St->Hp->Prop,∀j σ H',Pw j σ H'↔∃(v4:ZM),σ=[some Wc,some Z6,some (.ref n),some (nat g.1),v4]/\WV Hf H'/\H' n=some (.dK (cntK ((ss.take j).foldl Zeg f0))):=Yg;simp! [kV];refine⟨⟨_,ag.of (s2.at A3 Fd)⟩,Zft Pw ((Yl _).mpr ⟨v4,rfl,s2,fH⟩) (λi σ H' _ hv=>let⟨_,_,s3,_⟩:=(Yl _).mp hv;ag.of (s3.at A3 Fd)) ?_ ?_⟩
   ·intro j y σ H3 hy hv;obtain⟨v4,rfl,s3,kF⟩:=(Yl _).mp hv;obtain⟨sh,hsh,rfl⟩:=Wr;have hs7:=jt sh (bI hsh);obtain⟨f1,L7⟩:∃f1,f1=(ss.take j).foldl Zeg f0:=Zs;have xj:jM f1:=by rw[L7];exact NY hg7 _ _ ok0 λt ht=>jt t (Cj ht)
    rw[←L7]at kF;have e1:(ss.take (j+1)).foldl Zeg f0=jg f1 g sh:=by rw[dA hsh,Pa,←L7];rfl
    have hand:Builtin.bitAnd (g.1:Int) (sh:Int)=((g.1&&& sh:Nat):Int):=arH _ _;have hor:V.int (Builtin.bitOr (g.1:Int) (sh:Int))=kV Zkn:=by rw[ary];rfl
    have dgc:bZ H3 d (nat g.1) (some (nat g.2)):=.inl ⟨ZaP,Sum.inl (g.1:Int),.inr ⟨od,s3.at gU ml⟩,rfl,c1.symm⟩;have dgf:bZ H3 n (kV Zkn) (eO (cntK f1) Zkn):=bZ.k kF;ext a;rw[hor];by_cases h0:g.1&&& sh=0
    ·rw[hand,h0];have hw:jg f1 g sh=jH f1 (g.1|||sh) g.2:=af h0;refine aI ⟨.inl ⟨_,.inl kF⟩,_,dgf,_,dgc,(dH f1 (g.1|||sh):Int),ad6 xj.nd _,_,rfl,_,qv.k kF (by unfold cntK;rw[aq];have:=xj.len;omega),?_⟩;refine(Yl _).mpr ⟨_,rfl,s3.put kF,?_⟩;rw[au,e1,hw,←aqJ xj.nd];rfl
    ·rw[aX (by rw[hand];omega)];have hw:jg f1 g sh=f1:=ae h0;refine aF ((Yl _).mpr ⟨_,rfl,s3,?_⟩);rw[kF,e1,hw]
   ·ext B;obtain⟨v4,rfl,s3,kF⟩:=(Yl _).mp hv;rw[bA,eg]at kF;refine(Zi _).mpr ⟨_,_,rfl,s3,?_⟩;rw[kF,dA hg,Pa,←Fj,hG];rfl
  ·ext bV;ext a;have kC:ZQ (Wz d (.dK ZaP)):=by
    refine Zos Zfw
    ·exact s2.keep _ _ ZbY t Zqz
    ·ext bW
    ·exact ZqK
   refine k _ n kC hn ?_;rw[ax Zh3,hO];unfold cntK xi;rw[aq,eg,hG]
theorem aj7{f:Addr}{fd:FuncData}(T:Zm)(iK:Zco)(qa:ZkY)(fA:Zac)
  (p8:Zkf) (M0:Zv "can_take" GP 2 (Rk A)) (FD:Zv "as_bits" GU 1 Ro) (MO:Zv "one_person_on" GB 1 Q5)
  (F:Zo "count_ways" "count_ways" Dz f fd):YV 5 f fd GL (Rh A):=by
 have nd:=SO.nd;refine F.ok SO Zk Zn
 ·ext K
 ·ext aZ;ext j;refine⟨_,(ao (W2 Zcw)
   (ao (WM Zsl)
   (ao (Xj (aiA aR aR))
   (ao (dN dF rfl (ZV ZkZ) WT (ao (pz 5 (own:=[("share",6)]) rfl nd (ZV ZR) (show cB afe (aA Dz) _ _ from Yi) (λ_ _ _ _ _=>(aZ 6 nd)) (λ_ _ _ _ _=>iX (Z5 (az M0 hr rfl (ZL (Xl (aa Yh (aa Za4 ai))))) Z2)) (λ_ _ _ _ _=>(az FD hr rfl (aa Za4 ai))))
   (ak (bq 3 nd (az MO hr rfl (aa (pv 3) (aa (pv 5) ai)))))))
   (ak (ay (aav hu (pv 3) (az FD hr rfl (aa (az fA hr rfl (aa (pv 0) ai)) ai)) aR ⟨rfl,rfl,rfl,rfl⟩))))))),?_⟩
  ext a;have hU:=Vt;have Be:∀t∈Z9 c,t<7:=λt ht=>by have:=(xp.mp ht).1;have:=wf.steps;omega
  have ot:=TM P c;refine Zo3;refine⟨r,i,j,P,ab,c,rfl,XB,wf,λH2 u2 s2 auO pN=>?_⟩;refine⟨u2,Z8,rfl,pN,n9 7 _ hU Be,ot,λH3 l3 s3 xU b0=>?_⟩;intro p hp;refine⟨[(Sum.inl 0,nat 1)],rfl,Zj,?_⟩;have em:xo [] [(Sum.inl 0,nat 1)]=cntK [(0,1)]:=rfl;rw[em];have s4:Wj (U6 p (.dK (cntK [(0,1)]))):=WE;ext S;ext aH;refine⟨r,i,j,P,ab,c,rfl,hR.same jS,wf,λH5 l5 s5 acH jz=>?_⟩;have tj:=jS.trans s5;have wJ:=ZaA;have E1:kU P ab=kW P ab:=rfl;rw[E1]at jz;have hpn:(kW P ab).Nodup :=(aft).filter _;obtain⟨rows,gS,gR⟩:=b0;have amC:H5 l3=some (.lst (rows.map V.ref)):=wJ.at gS;obtain⟨Pv,aB⟩:∃Pv:Nat->L2.St->Hp->Prop,∀m σ H',YK H'↔∃(q:Addr) (cn:dz) (v4 v5 v6:ZM),σ=[some Yr,some (.ref d1),some (.ref l3),some XO,v4,v5,v6]/\ah H5 H'/\H' q=some (.dK ZaP)/\jM cn/\Tells UJ Z8 ((kW P ab).take m) cn:=Yg;refine⟨l5,rfl,⟨_,ag.of jz⟩,gH (nats Zds) Pv ((Zi _).mpr ⟨p,[(0,1)],none,none,none,rfl,ZW,s5.at au,⟨Zf,λz hz=>by rw[bo.mp hz];decide⟩,agX _ _ hU⟩) (λi σ H' _ hv=>let⟨_,_,_,_,_,_,s6,_⟩:=(Zi _).mp hv;ag.of (s6.at jz)) ?_ ?_⟩
  ·intro m y σ H6 hy hv;ext cq;ext bs;have om:=bI hx;have kx:x<P.persons.length:=dS.mp (bD.mp om).1;have JR:=tj.trans s6;have acI:=s6.at amC;have aco:=K4 Z8 ((Z9 c).length +1);rw[alu]at aco;have hul:=n9 7 _ hU Be;have auQ:(subsets Z8).length <=1024:=cq aco (by have h2:2 ^ (Z9 c).length <=2 ^ 7:=Ztx hul;exact cq (aeV (show(Z9 c).length +1<=8 by omega) h2) Zj)
   have fG:rows.length=(subsets Z8).length :=du gR;ext a;refine⟨⟨_,ag.of acI⟩,e8 (zs:=subsets Z8) (ag.of acI) (by rw[aq];exact fG) Zb (UJ x) (λsh=>nat (bits sh)) (λn v z H' ig hz s7 R S bc hS=>?_) (λD7 H7 hD7 s7 h7=>?_)⟩
   ·obtain⟨ra,iF,rfl⟩:=get_map ig;obtain⟨z',br,eS⟩:=gN gR iF;ext O
    have cO:=Xv;obtain⟨m1,m2⟩:=zH cO;have hzn:=Ic hU cO;have wI:=(wJ.trans s6).trans s7;ext a;refine⟨r,d1,ra,i,j,P,ab,c,x,z,rfl,hR.same (cG.trans wI),wf,wc,uL.same ((s2.trans s3).trans wI),kx,wI.at eS,m1,Zb,λH8 s8=>Yy⟩;cases e:UJ x z with
    |false=>exact aF (hS e _ s8)
    |true=>exact aI ⟨ra,z,rfl,s8.at (wI.at eS),hzn,λt ht=>Be t (m1 t ht),λH9 s9=>bc e _ (s8.trans s9)⟩
   ·obtain⟨ss,jt⟩:∃ss,ss=((subsets Z8).filter (UJ x)).map bits:=Zs;have h7':H7 D7=some Zan:=by rw[h7,jt];unfold nats;rw[bz];rfl
    have bG:∀t∈ss,t<128:=λt ht=>by rw[jt]at ht;obtain⟨ch,gW,rfl⟩:=aO.mp ht;have ni:=(bD.mp gW).1;exact(Og ch (Ic hU ni) λu hu=>Be u ((zH ni).1 u hu)).1
    refine⟨q,D7,cn,ss,rfl,s7.at hq,Ef,h7',bG,λH8 d8 s8 avc hd8=>?_⟩;refine(Zi _).mpr ⟨d8,_,_,_,_,rfl,(s6.trans s7).trans s8,hd8,aqK Ef bG,?_⟩;rw[dA hx,jt];exact agY hU (zx hpn hx) tl
  ·intro σ H6 hv;ext cq;rw[bA,eg]at tl;have JR:=tj.trans s6;ext a;refine⟨.inl ⟨_,.inl hq⟩,r,i,j,P,ab,c,rfl,hR.same JR,wf,λH7 l7 s7 acF pV=>⟨l7,Z8,rfl,pV,hU,Be,λH8 s8=>?_⟩⟩;have wH:=s7.trans s8;refine⟨_,bZ.k (k:=Ztz) (wH.at hq),?_⟩;have e0:(eO ZaP Ztz).getD (V.int 0)=nat (ZcU Z8 c):=by rw[←aqy P ab c (λy hy=>VW (hy.elim (λq=>ZfQ) λq=>Zig)) wc.room tl];exact ad6 Ef.nd _
   rw[e0];exact k H8 (JR.trans wH)
end
end
local macro_rules | `(tactic| simp! [$xs,*]) => `(tactic| simp only [o9, v_, qF, nM, lL, wW, tF, wd, sP, wm, lM, vY, nO, lD, nN, vP, vS, zy, tC, tB, wt, vV, vW, wq, vU, zA, wb, sJ, wk, sO, sM, tH, tG, wR, tI, tJ, jT, rI, wY, wG, we, nU, wO, wU, wo, yz, wV, wX, wQ, o_, qH, sI, vR, tE, vT, vX, zB, zC, ui, uh, uj, xB, ug, xA, vN, sQ, ud, vO, rU, vQ, tD, wj, wg, zD, pb, qG, sN, yB, yA, Nat.succ_eq_add_one, uR, wD, zP, zQ, zO, V.str.injEq, wB, xm, mU, AI, Bs, fold_succ, List.set_cons_zero, List.set_cons_succ, List.getElem?_cons_zero, List.getElem?_cons_succ, Option.some.injEq, exists_eq_left', exists_eq_left, exists_and_left, and_assoc, true_and, and_true, V.bl.injEq, HO.lst.injEq, HO.ins.injEq, HO.tup.injEq, V.ref.injEq, V.int.injEq, decide_true, decide_false, if_true, if_false, List.cons.injEq, Bool.false_eq_true, au, jP, exists_const, exists_eq', exists_eq, and_self, List.append_nil, List.nil_append, List.cons_append, List.append_assoc, L2.start, List.map_cons, List.map_nil, List.length_cons, List.length_nil, Nat.zero_add, Nat.reduceAdd, Nat.reduceSub, List.replicate_succ, List.replicate_zero, wipe, $xs,*])
section
open Vbwbal (text rolesOf indexOf isName)
abbrev ae2:Zc:=["plan","names","name"]
theorem R5:aV ae2 Gr (aA Dk):=Zl
def fS(P:Plan)(n:Bytes):Nat:=P.roles.findIdx λy=>y==n
def QR(A:Ad):Sp:=λvs H Q _=>∃(p a:Addr) (i:aW) (P:Plan) (ws:ZA),vs=[.ref p,.ref a]/\H p=some (ZfE i.dx (mP i))/\H i.r=some Zey/\P.roles.length<=8/\H a=some VD/\(∀n∈ws,n∈P.roles)/\ws.length<=5000/\
 ∀(H':Hp) (l:Addr),Zd->H l=none->H' l=some Ztu->Z0 H'
theorem JY{P:Plan}{n:Bytes}(h:n∈P.roles):Wg n<P.roles.length:=Hc ⟨n,h,Zf⟩
theorem C8:∀{l m:Za},ZcW->m.Pairwise Vg->(∀x,x∈l↔x∈m)->l=m
 |[],[],_,_,_=>rfl
 |[],b::m,_,_,h=>absurd ((h b).mpr aY) Zf
 |a::l,[],_,_,h=>absurd ((h a).mp aY) Zf
 |a::l,b::m,hl,hm,h=>by
  obtain⟨cX,bH⟩:=Ci.mp hl;obtain⟨hm1,hm2⟩:=Ci.mp hm;have dc:a=b:=by
   rcases aJ.mp ((h a).mp aY)with e|e
   ·exact e
   ·rcases aJ.mp ((h b).mpr aY)with e'|e'
    ·exact e'.symm
    ·have:=cX b e';have:=hm1 a e;omega
  subst dc;congr 1;refine C8 bH hm2 λx=>?_;constructor
  ·intro hx;rcases aJ.mp ((h x).mp ZaS)with e|e
   ·have:=cX x hx;omega
   ·exact e
  ·intro hx;rcases aJ.mp ((h x).mpr ZaS)with e|e
   ·have:=hm1 x hx;omega
   ·exact e
theorem ue(x:Nat):∀(l:Za) (y:Nat),y∈Zbu l↔y=x∨y∈l
 |[],y=>by simp[Vbwbal.insert]
 |a::l,y=>by
  unfold Vbwbal.insert;split
  ·simp
  ·split
   ·rename_i h;subst h;simp
   ·rw[aJ,ue x l y,aJ];ext b
    ·rintro(h|h|h)
     ·exact ZdE
     ·exact XN
     ·exact .inr Vs
    ·rintro(h|h|h)
     ·exact ZdE
     ·exact XN
     ·exact .inr Vs
theorem EJ(x:Nat):∀(l:Za),ZcW->(Zbu l).Pairwise Vg
 |[],_=>by simp[Vbwbal.insert]
 |a::l,h=>by
  obtain⟨h1,h2⟩:=Ci.mp h;unfold Vbwbal.insert;split
  ·rename_i hx;refine Ci.mpr ⟨λy hy=>?_,h⟩;rcases aJ.mp hy with e|e
   ·omega
   ·have:=h1 y e;omega
  ·split
   ·exact h
   ·refine Ci.mpr ⟨λy hy=>?_,EJ x l h2⟩;rcases(ue x l y).mp hy with e|e
    ·omega
    ·exact h1 y e
theorem NM{rs:Za}(h:∀r∈rs,r<8)(x:Nat):x∈e_ rs↔x∈rs:=by unfold e_;rw[bD,dS,bx];exact⟨λq=>q.2,λq=>⟨h x q,q⟩⟩
theorem TH{P:Plan}(h8:P.roles.length<=8):∀ws:List Bytes,(∀n∈ws,n∈P.roles)->rolesOf P ws=.ok (e_ ZeK)
 |[],_=>by unfold rolesOf;congr 1
 |n::r,h=>by
  have hn:=h n aY;have ih:=TH h8 r λm hm=>h m (ZD hm);have bG:∀m∈n::r,Wg m<8:=λm hm=>hX (JY (h m hm)) h8;have dv:∀x∈(n::r).map Wg,x<8:=λx hx=>by obtain⟨m,hm,rfl⟩:=aO.mp hx;exact bG m hm
  have EV:∀x∈r.map Wg,x<8:=λx hx=>dv x ZaS;unfold rolesOf;have hi:indexOf P.roles n=some (Wg n):=by unfold indexOf;rw[af (bx.mpr hn)];rfl
  rw[hi,ih];show Except.ok (Vbwbal.insert (Wg n) (e_ (r.map Wg)))=Except.ok (e_ ((n::r).map Wg));congr 1;refine C8 (EJ _ _ (NL _)) (NL _) λx=>?_;rw[ue,NM EV,NM dv,cw,aJ]
theorem TJ{P:Plan}:∀ws:List Bytes,(∃n∈ws,n∉P.roles)->rolesOf P ws=.error 3
 |[],h=>by obtain⟨n,hn,_⟩:=h;cases hn
 |a::r,h=>by
  unfold rolesOf indexOf;by_cases ha:P.roles.contains a=true
  ·rw[af ha];have:∃n∈r,n∉P.roles:=by
    obtain⟨n,hn,hq⟩:=h;rcases aJ.mp hn with e|e
    ·exact absurd (bx.mp ha) (e▸hq)
    ·exact⟨n,e,hq⟩
   ext i;rw[TJ r this]
  ·rw[ae ha]
section
variable {P:Program}{w:World}{K:PySem.W.Frag}{mg:Zy}{base:Heap}{A:Ad}
theorem ajn{f:Addr}{fd:FuncData}(T:Zm)(F:Zo "role_numbers" "role_numbers" Dk f fd):Z4 Gr (QR A):=by
 have nd:=R5.nd;refine F.ok R5 Zk Zn
 ·obtain⟨p,a,i,P,ws,rfl,_⟩:=h;rfl
 ·obtain⟨p,a,ix,P,ws,rfl,hPi,hPr,wf8,ha,iI,hl,k⟩:=h;ext c;have n1:=Zbs;have dv:∀r∈ws.map Wg,r<8:=λr hr=>by obtain⟨n,hn,rfl⟩:=aO.mp hr;have:=JY (iI n hn);omega
  refine⟨_,(ak (ay (bW arb Vq T.aaZ arL (aa (w9 (ard K) Vq T.aa0 arM (aa (dW (own:=[("name",2)]) rfl nd (ZV ZE) (show cB ae2 (aA Dk) _ _ from Yi) Zbh Xe (λ_ _ _ _ _=>(Zk2 Y7))) ai)) ai)))),?_⟩;ext a;refine⟨UB,ZrK (λn=>nat (Wg n)) Zbd (λD H1 hD s1 h=>?_)⟩
  ·ext o
   have fj:=s1.at hPi;have gX:=s1.at hPr;simp! [fj,T.bU,n1,nX,cQ gX];exact DT gX (iI z Xv) ZcS
  ·have Mm:H1 D=some (.lst (nats ZeK)):=by rw[h,filter_all];unfold nats;rw[bz];rfl
   refine⟨D,rfl,_,ag.of Mm,dv,λl cY=>⟨_,rfl,dv,λl2 bH=>?_⟩⟩;have s2:Yc (Yo l (zN w l ZeK)):=a0 cY;have s3:Yc (upd (Yo l (zN w l ZeK)) l2 Ztu):=bV s2 (s2.free bH);exact k _ l2 (s1.trans s3) (s1.free (s2.free bH)) au
end
end
section
open Vbwbal (signer load goesWith fits unsigned choiceOf)
abbrev atl:Zc:=["self"]
theorem Tg:aV atl B8 (aA DM):=Zl
abbrev atm:Zc:=["self","number","numbers","text","places"]
theorem Th:aV atm B9 (aA DN):=Zl
abbrev ath:Zc:=["self","plan"]
theorem Tc:aV ath B6 (aA DI):=Zl
def mq(r:V):Y6:=[("record",r)]
theorem NP(r:V):(mq r).lookup ("record":Str)=some r:=rfl
def qh(n l t p:V):Y6:=[("number",n),("numbers",l),("text",t),("places",p)]
theorem aec(n l t p:V):(qh n l t p).lookup ("number":Str)=some n:=rfl
theorem u6(n l t p:V):(qh n l t p).lookup ("numbers":Str)=some l:=rfl
theorem N6(n l t p:V):(qh n l t p).lookup ("text":Str)=some t:=rfl
theorem aru(n l t p:V):(qh n l t p).lookup ("places":Str)=some p:=rfl
def Rg(A:Ad):Sp:=λvs H Q _=>∃(x dx:Addr),vs=[.ref x]/\H x=some (ZbM dx [])/\Q .ba (Zw x (ZbM dx (mq .ba)))
def IF(A:Ad):Sp:=λvs H Q _=>∃(x dx:Addr) (a b c d:V),vs=[.ref x,a,b,c,d]/\H x=some (ZfD dx [])/\Q .ba (Zw x (ZfD dx (qh a b c d)))
theorem SameBut.ah3{n:Addr}{H H1:Hp}{l:Addr}{o:HO}(s:WV H H1)(hn:H l=none)(nx:NX (H1 l)):WV H (Yo l o):=by
 refine⟨λb u hb t e=>?_,λb ps e=>?_,λP h=>?_⟩
 ·rw[ax ZbY];exact s.keep b u hb t e
 ·rw[ax ZbY];exact Zgo e
 ·ext cl;refine⟨ps,by rw[ax (cg h0 hn)];exact h1,h2,λpos cv e=>?_⟩;ext bS
theorem SameBut.free{n:Addr}{H H':Hp}(e:WV H H'){l:Addr}(hl:l≠n)(h:H' l=Option.none):H l=Option.none:=by
 cases q:H l with
 |none=>rfl
 |some o=>
  exfalso;cases o with
  |b9 ps=>
   ext cJ
  |_=>
   have q':=e.at hl q;rw[q']at h;cases h
structure gw(C x dx:Addr)(fs:Y6)(bs:Zat)(H H':Hp):Prop where
 sb:Zgh H H'
 ins:H' x=some Up
 fr:∀z∈bs,H z.1=none
 nd:(bs.map Zh).Nodup
 ls:∀z∈bs,H' z.1=some z.2/\z.1≠x
theorem gw.start{C x dx:Addr}{H:Hp}(h:H x=some (V1 dx [])):gw C x dx [] [] H H:=⟨BP x H,h,λz hz=>Vd,sq,λz hz=>Vd⟩
theorem gw.alloc{C x dx:Addr}{fs:Y6}{bs:Zat}{H H':Hp}(I:Zjj){r:Addr}{o:HO}(hr:H' r=none):ZcF (bs++[(r,o)]) H (Wz r o):=by
 have xI:r≠x:=λe=>by rw[e,I.ins]at hr;cases hr
 have hb:∀z∈bs,z.1≠r:=λz hz e=>by have:=(V2 hz).1;rw[e,hr]at this;cases this
 refine⟨I.sb.same (a0 hr),Zp9,λz hz=>?_,?_,λz hz=>?_⟩
 ·rcases b8.mp hz with q|q
  ·exact I.fr z q
  ·rw[bo.mp q];exact I.sb.free xI hr
 ·rw[cA];refine El I.nd λhm=>?_;obtain⟨z,hz,e⟩:=aO.mp hm;exact hb z hz e
 ·rcases b8.mp hz with q|q
  ·refine⟨?_,(V2 q).2⟩;rw[ax (hb z q)];exact(V2 q).1
  ·rw[bo.mp q];exact⟨au,xI⟩
theorem gw.put{C x dx:Addr}{fs fs':Y6}{bs:Zat}{H H':Hp}(I:Zjj):gw C x dx fs' bs H (Wz x (V1 dx fs')):=
 ⟨I.sb.put I.ins,au,I.fr,I.nd,λz hz=>⟨by rw[ax (V2 hz).2];exact(V2 hz).1,(V2 hz).2⟩⟩
theorem gw.re{C x dx:Addr}{fs:Y6}{bs cs:Zat}{r:Addr}{xs:Yb}{o:HO}{H H':Hp}(I:ZcF (bs++(r,.dK xs)::cs) H H'):ZcF (bs++(r,o)::cs) H (Wz r o):=by
 have hm:(r,HO.dK xs)∈bs++(r,.dK xs)::cs:=je _ aY;have xI:=(I.ls _ hm).2;have gn:=I.nd;rw[cA,cw]at gn;obtain⟨n1,n2,n3⟩:=mw.mp gn;obtain⟨n4,n5⟩:=df.mp n2;have dB:∀z∈bs++(r,o)::cs,z=(r,o)∨(z∈bs++(r,HO.dK xs)::cs/\z.1≠r):=λz hz=>by
  rcases b8.mp hz with q|q
  ·exact .inr ⟨my _ q,λe=>n3 z.1 (List.mem_map_of_mem q) r aY e⟩
  ·rcases aJ.mp q with q|q
   ·exact X9
   ·exact .inr ⟨je _ ZdV,λe=>n4 (by show r∈_;rw[←e];exact List.mem_map_of_mem q)⟩
 refine⟨I.sb.ah3 (I.fr _ hm) (Eh (I.ls _ hm).1),Zp9,λz hz=>?_,?_,λz hz=>?_⟩
 ·rcases dB z hz with q|q
  ·rw[q];exact I.fr (r,.dK xs) hm
  ·exact I.fr z q.1
 ·rw[cA,cw];exact gn
 ·rcases dB z hz with q|q
  ·rw[q];exact⟨au,xI⟩
  ·exact⟨by rw[ax q.2];exact(V2 q.1).1,(V2 q.1).2⟩
theorem gw.get{C x dx:Addr}{fs:Y6}{bs:Zat}{H H':Hp}(I:Zjj)(n:Nat){z:Addr×HO}(h:bs[n]? =some z):H' z.1=some z.2:=(V2 (bI h)).1
theorem gw.avh{C x dx:Addr}{fs:Y6}{bs:Zat}{H H':Hp}(I:Zjj)(n:Nat){z:Addr×HO}(h:bs[n]? =some z):z.1≠x:=(V2 (bI h)).2
theorem dw.but{C C' x dx p:Addr}{i:aW}{P:Plan}{H H':Hp}(s:Zgh H H')(hx:H x=some (.ins C' dx []))(h:Zi2):ZiI:=by have kl:∀b l,H b=some UR->H' b=some UR:=λb l e=>Zqp;have kt:∀b l,H b=some (.tup l)->H' b=some (.tup l):=λb l e=>Zqp;have rows:∀a ns,Zba ns->fN H' a ns:=λa ns ⟨rs,h1,h2⟩=>ZjW;have mN:∀a ns,U3 ns->g8 H' a ns:=λa ns ⟨rs,h1,h2⟩=>⟨rs,Xw h1,gA (λ_ _ e=>kt _ _ e) h2⟩;exact⟨s.at (λq=>by have e:=h.ins;rw[q,hx]at e;cases e) h.ins,Xw h.roles,Xw h.persons,Xw h.steps,Xw h.eF,s.at (λq=>by have e:=h.pairs;rw[q,hx]at e;cases e) h.pairs,ZdQ h.pr,ZdQ h.sr,U5 h.after,U5 h.unlike,U5 h.alike⟩
def QT(A:Ad):Sp:=λvs H Q _=>∃(x dx p:Addr) (j:aW) (P:Plan),vs=[.ref x,.ref p]/\H x=some (.ins A.record dx [])/\dw A.plan H p j P/\ZG/\
 ∀(H':Hp) (i:bC),i.dx=dx->i.p=p->Zgh H H'->(∀b∈i.aH,H b=none)->i.aH.Nodup->H' x=some (.ins A.record dx (mM i))->H' i.ab=some (.lst (ZgO ZaE))->H' i.en=some Ye->H' i.sg=some (.lst (ZgY .ba))->Q .ba H'
def QW(A:Ad):Sp:=λvs H Q _=>∃(x dx:Addr),vs=[.ref x]/\H x=some (ZfE dx [])/\
 ∀(H':Hp) (i:aW),i.dx=dx->Zgh H H'->H' x=some (ZfE dx (mP i))->H' i.d=some (.dK (xb i))->(i.d::i.aH).Nodup ->x∉i.d::i.aH->(∀b∈i.d::i.aH,H b=none)->(∀b∈i.aH,H' b=some Ye)->Q .ba H'
section
variable {P:Program}{w:World}{K:PySem.W.Frag}{mg:Zy}{base:Heap}{A:Ad}
theorem aj6{f:Addr}{fd:FuncData}(T:Zm)(F:Zav "Desk.__init__" DM f fd):Z4 B8 (Rg A):=by
 have nd:=Tg.nd;refine F.ok Tg Zk Zn
 ·obtain⟨x,dx,rfl,_⟩:=h;rfl
 ·obtain⟨x,dx,rfl,hx,k⟩:=h;refine⟨_,(ak (UI tM rfl)),?_⟩;have n1:=ZmB;simp! [hx,T.BI,n1];exact⟨Zj,k⟩
theorem akh{f:Addr}{fd:FuncData}(T:Zm)(F:Zav "Call.__init__" DN f fd):Z4 B9 (IF A):=by
 have nd:=Th.nd;refine F.ok Th Zk Zn
 ·obtain⟨x,dx,a,b,c,d,rfl,_⟩:=h;rfl
 ·obtain⟨x,dx,a,b,c,d,rfl,hx,k⟩:=h;refine⟨_,(ao ZiC
   (ao (UI ZR rfl)
   (ao (UI ZH rfl)
   (ak (iY K (pv 0) (pv 4) rfl))))),?_⟩
  have n1:=T.jW "number" ZT;have n2:=Zmf;have n3:=Znk;have n4:=T.jW "places" ZT;simp! [hx,T.lG,n1,n2,n3,n4];exact Zoc
theorem ajq{f:Addr}{fd:FuncData}(T:Zm)(F:Zav "Record.__init__" DI f fd):Z4 B6 (QT A):=by
 have nd:=Tc.nd;refine F.ok Tc Zk Zn
 ·obtain⟨x,dx,p,j,P,rfl,_⟩:=h;rfl
 ·obtain⟨x,dx,p,j,P,rfl,hx,hP,wf,k⟩:=h;ext c;refine⟨_,(ao ZiC
   (ao (UI (cR aaG (bh (aa ki ai)) (Xd (aa ZcR ai))) rfl)
   (ao (UI Wa rfl)
   (ak (iY K (pv 0) (cR aaG (bh (aa tM ai)) (bW (c6 K) (by rfl) T.cM cU (aa (aD K (pv 1) rfl) ai))) rfl))))),?_⟩
  ext v;have n2:=ZcG;have n3:=Ue;have n4:=ZcE;have n5:=Zbn;have n6:=Ui;have I0:=gw.start hx;simp! [hx,T.dD,n1];refine⟨Zj,X2,?_⟩;have I1:=I0.put (fs':=[("plan",V.ref p)]);obtain⟨H1,fw⟩:∃H1,H1=Zw x (Zma (fh "plan" (V.ref p) [])):=Zs;rw[←fw];replace I1:gw A.record x dx [("plan",V.ref p)] [] H H1:=by rw[fw];exact I1
  intro p1 ow;have I2:=I1.alloc (o:=.lst [.bl false]) ow;obtain⟨H2,fL⟩:∃H2,H2=Yo p1 (.lst [.bl false]):=Zs;rw[←fL]at I2⊢;have gX:=hP.but I2.sb hx;have e2:H2 p1=some (.lst [.bl false]):=I2.get 0 rfl;have jx:=wf.persons;have hs7:=wf.steps;simp! [gX.ins,T.bU,n5,kZ,e2];refine⟨P.persons.length,ZpG,Zb,Zb,Zb,?_⟩;rw[mD,show(List.replicate P.persons.length [V.bl false]).flatten =ZgO (V.bl false) by simp];intro p2 dP;have I3:=I2.alloc (o:=Zs6) dP;obtain⟨H3,uM⟩:∃H3,H3=YD p2 Zs6:=Zs;rw[←uM]at I3⊢;refine⟨_,_,_,I3.ins,T.dD,n2,by show(1 :Nat)<1000;decide,ZI,?_⟩;have I4:=I3.put (fs':=fh "absent" (V.ref p2) [("plan",V.ref p)]);generalize upd H3 x (Zma Zok)=H4 at I4⊢;intro p3 jZ;have I5:=I4.alloc (o:=.lst []) jZ;obtain⟨H5,mf⟩:∃H5,H5=U7 p3 Ye:=Zs;rw[←mf]at I5⊢;refine⟨_,_,_,I5.ins,T.dD,n3,by show(2 :Nat)<1000;decide,X2,?_⟩;have I6:=I5.put (fs':=Zr5);generalize upd H5 x (Zma Zr5)=H6 at I6⊢;intro p4 rJ;have I7:=I6.alloc (o:=.lst [.ba]) rJ;obtain⟨H7,hH7⟩:∃H7,H7=upd H6 p4 (.lst [.ba]):=Zs;rw[←hH7]at I7⊢;have hP7:=hP.but I7.sb hx;have e7:H7 p4=some (.lst [.ba]):=I7.get 3 rfl;refine⟨_,_,_,hP7.ins,T.bU,n6,_,kY j,P.steps.length,.inl ⟨_,ag.of hP7.steps,(aq _).symm⟩,?_⟩;simp! [e7];refine⟨Zb,Zb,?_⟩;intro p5 hp5;have I8:=I7.alloc (o:=.lst (ZgY V.ba)) hp5;obtain⟨H8,oE⟩:∃H8,H8=upd H7 p5 (.lst (ZgY V.ba)):=Zs;rw[←oE]at I8⊢;refine⟨_,_,_,I8.ins,T.dD,n4,by show(3 :Nat)<1000;decide,?_⟩;have I9:=I8.put (fs':=mM ⟨dx,p,p2,p3,p5⟩);have gn:=I9.nd;refine k _ ⟨dx,p,p2,p3,p5⟩ rfl rfl I9.sb (λb hb=>?_) ?_ I9.ins (I9.get 1 rfl) (I9.get 2 rfl) (I9.get 4 rfl)
  ·simp only[bC.aH,aJ,mv,lV]at hb;rcases hb with rfl|rfl|rfl
   ·exact I9.fr (b,_) (bI (i:=1) rfl)
   ·exact I9.fr (b,_) (bI (i:=2) rfl)
   ·exact I9.fr (b,_) (bI (i:=4) rfl)
  ·simp only[mx,oS,cw,vp,df,aJ,mv,lV,not_or]at gn;simp only[bC.aH,df,aJ,mv,lV,not_or,not_false_eq_true,true_and,yK];obtain⟨_,⟨a1,_,a3⟩,⟨_,a5⟩,_⟩:=gn;exact⟨⟨a1,a3⟩,a5,sq⟩
theorem wC{C x dx:Addr}{fs:Y6}{bs:Zat}{H0 H:Hp}{g:Str}{u:TS}{D:Ends}{σ:L2.St}(I:ZcF bs H0 H)(hσ:σ[0]? =some (some Zdp))(hc:jN K C)(hn:Vz g)(hl:ZnU)
  (h:∀p H',gw C x dx (fh g Z7 fs) (bs++[(p,.lst [])]) H0 H'->u D σ H'):o9 (nU K (lL 0) (nN lM) g) u D σ H:=
 ⟨ZI,λp hp=>⟨_,hσ,x,C,dx,fs,rfl,(I.alloc hp).ins,hc,hn,hl,h p _ (I.alloc hp).put⟩⟩
theorem ahC{C x dx:Addr}{fs:Y6}{bs:Zat}{H0 H:Hp}{g:Str}{D:Ends}{σ:L2.St}(I:ZcF bs H0 H)(hσ:σ[0]? =some (some Zdp))(hc:jN K C)(hn:Vz g)(hl:ZnU)
  (h:∀d a u l H',gw C x dx (fh g Wc fs) (bs++[(d,.dK [(.inr "after",ZY),(.inr "unlike",.ref u),(.inr "alike",Z6)]),(a,.lst []),(u,.lst []),(l,.lst [])]) H0 H'->W0 H'):
  nU K (lL 0) (pb [(tC (.str "after"),nN lM),(tC (.str "unlike"),nN lM),(tC (.str "alike"),nN lM)]) g D σ H:=by
 intro d hd;have I1:=I.alloc (o:=.dK []) hd;refine⟨ZI,λa ha=>?_⟩;have I2:=I1.alloc (o:=.lst []) ha;refine⟨ZI,λu hu=>?_⟩;have I3:=I2.alloc (o:=.lst []) hu;refine⟨ZI,λl cY=>?_⟩;have I4:=I3.alloc (o:=.lst []) cY;simp only[eC,oS,mx]at I4;have I5:=I4.re (o:=.dK [(.inr "after",ZY),(.inr "unlike",.ref u),(.inr "alike",Z6)]);refine⟨(I4.ls (d,.dK []) (je _ aY)).1,[(.inr "after",ZY),(.inr "unlike",.ref u),(.inr "alike",Z6)],rfl,by show(3 :Nat)<=15;decide,?_⟩;exact⟨_,hσ,x,C,dx,fs,rfl,I5.ins,hc,hn,hl,h d a u l _ I5.put⟩
end
end
section
open Vbwbal (signer load goesWith fits unsigned choiceOf)
abbrev ati:Zc:=["self"]
theorem Td:aV ati B7 (aA DJ):=Zl
theorem aiz{X:Cx}{pos:Pos}{k1 k2 k3 v1 v2 v3:Expr}{a1 a2 a3 b1 b2 b3:TE}(h1:Zt k1 a1)(g1:Zt v1 b1)(h2:Zt k2 a2)(g2:Zt v2 b2)(h3:Zt k3 a3)(g3:Zt v3 b3):
  PE X (.Dict [some k1,some k2,some k3] [v1,v2,v3] pos) (pb [(a1,b1),(a2,b2),(a3,b3)]):=
 aau (DU h1 g1 (DU h2 g2 (DU h3 g3 aaa))) rfl rfl (afL _ _) (by show(3 :Nat)<=15;decide)
@[irreducible] def QS(X:Cx)(s:Stmt)(t:TS):Prop:=PS X s t
@[irreducible] def ve(X:Cx)(s:WU)(t:TS):Prop:=jb X s t
theorem tK{X:Cx}{o value:Expr}{ta tv:TE}{f:Str}{pos pos':Pos}(K:PySem.W.Frag)(ha:Zt o ta)(hv:ZiZ)(hs:ZjI)(hK:X.K=K:=by rfl):QS X Zke (nU K ta tv f):=by unfold QS;exact iY K ha hv hs hK
theorem wZ{X:Cx}{s:Stmt}{r:WU}{t u:TS}(h1:QS X s t)(h2:ve X r u):ve X Za5 (o9 t u):=by unfold QS at h1;unfold ve at h2⊢;exact ao h1 h2
theorem ah2{X:Cx}{s:Stmt}{t:TS}(h1:QS X s t):ve X [s] t:=by unfold QS at h1;unfold ve;exact ak h1
theorem ah1{X:Cx}{s:WU}{t:TS}(h:ve X s t):jb X s t:=by unfold ve at h;exact h
section
variable {P:Program}{w:World}{K:PySem.W.Frag}{mg:Zy}{base:Heap}{A:Ad}
theorem ajv{f:Addr}{fd:FuncData}(T:Zm)(F:Zav "Plan.__init__" DJ f fd):Z4 B7 (QW A):=by
 have nd:=Td.nd;refine F.ok Td Zk Zn
 ·obtain⟨x,dx,rfl,_⟩:=h;rfl
 ·obtain⟨x,dx,rfl,hx,k⟩:=h;ext c;refine⟨_,ah1 (wZ Zcz
   (wZ Zcz
   (wZ Zcz
   (wZ Zcz
   (wZ Zcz
   (wZ Zcz
   (ah2 (tK K (pv 0) (aiz cW (bh ai) cW (bh ai) cW (bh ai)) rfl)))))))),?_⟩
  ext bC;refine wC (gw.start hx) rfl T.bU n1 (by show(0 :Nat)<1000;decide) λp1 H1 I1=>?_;refine wC I1 rfl T.bU n2 (by show(1 :Nat)<1000;decide) λp2 H2 I2=>?_;refine wC I2 rfl T.bU n3 (by show(2 :Nat)<1000;decide) λp3 H3 I3=>?_;refine wC I3 rfl T.bU n4 (by show(3 :Nat)<1000;decide) λp4 H4 I4=>?_;refine wC I4 rfl T.bU n5 (by show(4 :Nat)<1000;decide) λp5 H5 I5=>?_;refine wC I5 rfl T.bU n6 (by show(5 :Nat)<1000;decide) λp6 H6 I6=>?_;refine ahC I6 rfl T.bU n7 (by show(6 :Nat)<1000;decide) λd a u l H7 I7=>?_;simp only[mx,oS,eC]at I7;have gn:=I7.nd;simp only[cw,vp]at gn;have gj:∀b∈[d,p1,p2,p3,p4,p5,p6,a,u,l],b∈[p1,p2,p3,p4,p5,p6,d,a,u,l]:=λb hb=>by simp only[aJ,mv,lV]at hb⊢;rcases hb with h|h|h|h|h|h|h|h|h|h<;>simp only[h,true_or,or_true]
  have iI:∀b∈[p1,p2,p3,p4,p5,p6,d,a,u,l],∃o,(b,o)∈[(p1,HO.lst []),(p2,.lst []),(p3,.lst []),(p4,.lst []),(p5,.lst []),(p6,.lst []),(d,.dK [(.inr "after",ZY),(.inr "unlike",.ref u),(.inr "alike",Z6)]),(a,.lst []),(u,.lst []),(l,.lst [])]:=λb hb=>by obtain⟨z,hz,e⟩:=aO.mp (show b∈[(p1,HO.lst []),(p2,.lst []),(p3,.lst []),(p4,.lst []),(p5,.lst []),(p6,.lst []),(d,.dK [(.inr "after",ZY),(.inr "unlike",.ref u),(.inr "alike",Z6)]),(a,.lst []),(u,.lst []),(l,.lst [])].map Zh from hb);exact⟨z.2,by rw[←e];exact hz⟩
  refine k H7 ⟨dx,p1,p2,p3,p4,p5,p6,d,a,u,l⟩ rfl I7.sb I7.ins (I7.get 6 rfl) ?_ ?_ ?_ ?_
  ·show[d,p1,p2,p3,p4,p5,p6,a,u,l].Nodup;exact(List.Perm.nodup_iff (List.perm_middle (l₁:=[p1,p2,p3,p4,p5,p6]) (a:=d) (l₂:=[a,u,l]))).mp gn
  ·intro hm;obtain⟨o,ho⟩:=iI x (gj x hm);exact(I7.ls _ ho).2 rfl
  ·intro b hb;obtain⟨o,ho⟩:=iI b (gj b hb);exact I7.fr _ ho
  ·intro b hb;have:(b,HO.lst [])∈[(p1,HO.lst []),(p2,.lst []),(p3,.lst []),(p4,.lst []),(p5,.lst []),(p6,.lst []),(d,.dK [(.inr "after",ZY),(.inr "unlike",.ref u),(.inr "alike",Z6)]),(a,.lst []),(u,.lst []),(l,.lst [])]:=by simp only[aW.aH,aJ,mv,lV]at hb;simp only[aJ,mv,lV,OA,yK,reduceCtorEq,and_false];rcases hb with h|h|h|h|h|h|h|h|h<;>simp only[h,true_or,or_true]
   exact(I7.ls _ this).1
end
end
section
open PySem.W (WData Codec OpenSpec Well WellAll ReadsW ReadsAllW)
mutual
theorem aqe{K:PySem.W.Frag}{H H':Hp}(sL:Zp2)(sT:Zp3):∀{v:V} {d:WData},Dw K H v d->Dw K H' v d
 |_,_,.ba =>.ba
 |_,_,.bl b=>WB
 |_,_,.int i=>Xs
 |_,_,.str x=>U1
 |_,_,.gr b=>.gr b
 |_,_,.lst h1 h2=>.lst (sL h1) ZnF
 |_,_,.tup h1 h2=>.tup (sT h1) ZnF
theorem FQ{K:PySem.W.Frag}{H H':Hp}(sL:Zp2)(sT:Zp3):∀{vs:Ze} {ds:Wu},kf K H vs ds->kf K H' vs ds
 |_,_,.nil =>.nil
 |_,_,.cons h1 h2=>.cons (aqe sL sT h1) ZnF
end
theorem aq9{P:Program}{w:World}{K:PySem.W.Frag}{mg mb:Zy}{k:Nat}{fa c Pt:Addr}{fd:FuncData}{ps:Zc}{sp:Sp}{s₁:Shared}{vals:Zp}{ds:Wu}{R:PySem.W.WRecords}{cl:Str->Wt}{d0:WData}
  (KX:K.In s₁.heap) (uw:s₁.heap.Ns mainGlobals mg) (hb:s₁.heap.Ns builtinsNs mb) (hbb:∀x:Str,x≠"__name__"->mb x=bootBuiltins x) (am5:s₁.heap.NoLimit) (hg:s₁.gens= #[])
  (me:WellAll w.params s₁.heap vals ds) (cC:lS ds=true) (hwt:∀d∈ds,d.weight<=1048576) (hr:eA k callerA)
  (hC:PySem.W.CodeHd s₁.heap c Pt) (hP:s₁.heap.get? Pt=some {cls:=.none,data:=.fields #[]}) (hKP:K.lookup Pt=none) (hB:BMain mg s₁.heap)
  (F:∀base:Heap,UM->V9->ZeB Pt->Zfg->YV k fa fd ps sp) (Mh:∀(s:Shared) (us:Zp),us.length=ps.length->ZjU ZbK) (hlen:ds.length=ps.length)
  (oq:∀(H:Hp) (xs:Ze),H Pt=some Zf5->kf K H xs ds->sp xs H (λv H'=>Dw K H' v d0/\∃iz,H' Pt=some Zdz) λ_ _ _=>False):
  codeAny Zdf callerA (.call (.ref fa) ⟨vals,[]⟩) (λr s'=>∃u as,r=.ok (.ret u)/\ReadsW R cl s'.heap u d0 as/\OldK s₁.heap s'.heap/\s'.os=s₁.os/\Znc) s₁:=by
 obtain⟨A,ho,ar⟩:=F5 ds vals me cC hwt;obtain⟨H0,yg⟩:∃H0,H0=kM K s₁.heap A:=Zs;have hO:aeP H0:=by rw[yg];exact arX ar
 have auW:Za8 H0 s₁.heap:=by rw[yg];exact arY ar
 have hS0:kf K H0 Znz ds:=by rw[yg];exact Zje vals me cC ho
 have hV:=qE ho;have hK0:∀b u,H0 b=some u->K.lookup b=none:=λb u q=>by rw[yg]at q;exact(BL ar q).1
 have RE:∀b u o,H0 b=some u->s₁.heap.get? b=some o->∃vs n,o.data=.seq vs n:=λb u o q e=>by
  rw[yg]at q;obtain⟨_,vs,_,_,⟨e2,_⟩|⟨e2,_⟩⟩:=BL ar q
  ·rw[e2]at e;cases e
   exact⟨_,_,rfl⟩
  ·rw[e2]at e;cases e
   exact⟨_,_,rfl⟩
 have nP:H0 Pt=none:=by
  cases q:H0 Pt with
  |none=>rfl
  |some u=>
   obtain⟨vs,n,e⟩:=RE Pt u _ q hP;cases e
 obtain⟨H,hH⟩:∃H,H=upd H0 Pt Zf5:=Zs;have hHP:H Pt=some Zf5:=by rw[hH];exact au
 have Bj:∀b,b≠Pt->H b=H0 b:=λb q=>by rw[hH];exact ax q
 have s0:∀b o,H0 b=some o->H b=some o:=λb o e=>by rw[Bj b λz=>by rw[z,nP]at e;cases e];exact e
 have aC:Za8 H s₁.heap:=λb u q=>by
  by_cases z:b=Pt
  ·rw[z,hHP]at q;cases q
   rw[z];exact hP
  ·rw[Bj b z,yg]at q;ext cr
   ·exact⟨e,ZkK,vs,_,qE h2,e⟩
   ·exact Zrn
 have sqL:∀{a:Addr} {xs:Ze},ag K H0 a xs->YO:=λh=>by
  rcases h with(h|⟨o,h⟩)|h
  ·exact .inl (.inl (s0 _ _ h))
  ·exact Zsf
  ·exact Vs
 have sqT:∀{a:Addr} {xs:Ze},bM K H0 a xs->VJ:=λh=>by
  rcases h with(h|⟨o,h⟩)|h
  ·exact .inl (.inl (s0 _ _ h))
  ·exact Zsf
  ·exact Vs
 have hS:kf K H Znz ds:=FQ sqL sqT hS0;have hK:∀b u,H b=some u->K.lookup b=none:=λb u q=>by
  by_cases z:b=Pt
  ·rw[z];exact hKP
  ·rw[Bj b z]at q;exact hK0 b u q
 have offS:∀{b:Addr} {o:Obj},s₁.heap.get? b=some o->(∀vs n,o.data≠.seq vs n)->b≠Pt->H b=none:=λ{b o} e d z=>by
  rw[Bj b z];cases q:H0 b with
  |none=>rfl
  |some u=>
   obtain⟨vs,n,e2⟩:=RE b u o q e;exact absurd e2 (d vs n)
 have Ap:∀{b:Addr} {o:Obj} {es:Ul} {ep:Nat},s₁.heap.get? b=some o->o.data=ZaW ep->H b=none:=λ{b o es ep} e d=>
  offS e (λvs n q=>by rw[d]at q;cases q) λz=>by
   rw[z,hP]at e;cases e
   cases d
 have F2:∀{b:Addr} {o:Obj},s₁.heap.get? b=some o->H b=none->(ZbI H).get? b=some o:=λe n=>anj e n;have Ei:∀{b:Addr} {m:Zy},s₁.heap.Ns b m->(ZbI H).Ns b m:=λ{b m} ⟨o,es,ep,e,d,r⟩=>⟨o,es,ep,F2 e (Ap e d),d,r⟩;have nK:∀b o,K.lookup b=some o->H b=none:=λb o e=>by
  cases q:H b with
  |none=>rfl
  |some u=>
   rw[hK b u q]at e;cases e
 have hKb:K.In (ZbI H):=λb o e=>F2 (KX b o e) (nK b o e);have hM:Mod K mg (ZbI H):=⟨hKb,Ei uw,⟨mb,Ei hb,hbb⟩,let⟨mc,h1,h2⟩:=am5;⟨mc,Ei h1,h2⟩⟩;have e0:vB P w K mg (ZbI H) callerA [] s₁ H:=⟨rfl,hM,λb o e=>akx e,OX (ani _ _),trivial,λb hb=>absurd (show b∈([]:List Addr)from hb) Zf,aC,.of_eq hg⟩;have hl:vals.length=ps.length:=by rw[CC me];exact hlen
 have hC0:=id hC;obtain⟨oc,vs,file,tf,flags,tg,inF,text,tt,c1,c2,c3,c4,cr⟩:=hC;have hCb:PySem.W.CodeHd (ZbI H) c Pt:=⟨oc,vs,file,tf,flags,tg,inF,text,tt,F2 c1 (offS c1 (λv n q=>by rw[c3]at q;cases q) λz=>by
  rw[z,hP]at c1;cases c1
  cases c2),c2,c3,c4,cr⟩
 obtain⟨bm,ob,b1,b2,b3,b4,b5,b6⟩:=hB;have hBb:BMain mg (ZbI H):=⟨bm,ob,b1,b2,F2 b3 (offS b3 (λv n q=>by rw[b6]at q;cases q) λz=>by
  rw[z,hP]at b3;cases b3
  cases b4),b4,b5,b6⟩
 have hfz:∀b u,b≠Pt->H b=some u->∃o v,u=.bL o v:=λb u z q=>by
  rw[Bj b z]at q;rcases hO b with y|⟨o,v,y⟩
  ·rw[y]at q;cases q
  ·rw[y]at q;cases q
   exact⟨o,v,rfl⟩
 refine uZ ((F _ hKb (Ei uw) hCb hBb).run callerA [] s₁ H ⟨vals,[]⟩ vals Znz _ _ hr e0 (Mh s₁ vals hl) hV (oq H _ hHP hS)) λr s' x=>?_;cases r with
 |error e=>exact Zfq
 |ok fl=>
  cases fl with
  |next=>exact False.elim x
  |brk=>exact Zfq
  |cont=>exact Zfq
  |ret u=>
   obtain⟨v,H',os,bare,un,LG,r',q,iz,amG⟩:=x;have kept:∀b o,b≠Pt->s₁.heap.get? b=some o->s'.heap.get? b=some o:=λb o z e=>by
    cases q2:H b with
    |none=>exact un.keep b o e q2 (by intro z;exact ZpA) Zf
    |some u2=>
     obtain⟨ob,u3,rfl⟩:=hfz b u2 z q2;have z2:=un.nr b ob _ q2;obtain⟨e1,_⟩:=aC b _ q2;obtain⟨e2,_⟩:=LG b _ z2;rw[e]at e1;cases e1
     exact e2
   have hP':s'.heap.get? Pt=some {cls:=.none,data:=.fields iz}:=LG Pt _ amG;have KX':K.In s'.heap:=λb o e=>kept b o (λz=>by rw[z,hKP]at e;cases e) (KX b o e);obtain⟨as,iE⟩:=Dw.reads (R:=R) (cl:=cl) LG KX' d0 v u q r';refine⟨u,as,rfl,iE,⟨λb o e=>?_,λb o e=>?_⟩,os,bare⟩
   ·by_cases z:b=Pt
    ·rw[z,hP]at e;cases e
     rw[z];exact .inr (.inl ⟨⟨c,oc,vs,c1,c2,c3,c4⟩,rfl,#[],iz,rfl,by rw[hP',Array.empty_append]⟩)
    ·exact .inl (kept b o z e)
   ·by_cases z:b=Pt
    ·exact⟨_,by rw[z];exact hP'⟩
    ·exact⟨o,kept b o z e⟩
end
end
section
section
open Vbwbal (Plan Bytes Choice splitBy wordsOf letter digit isName numOf lineOf text stepNames personNames indexOf rolesOf before pairLine)
theorem II:∀(l a:Za),a.Pairwise Vg->(l.foldl (λa x=>Zbu a) a).Pairwise Vg/\∀y,y∈l.foldl (λa x=>Zbu a) a↔y∈a∨y∈l
 |[],a,h=>⟨h,λy=>Zf⟩
 |x::r,a,h=>by
  obtain⟨h1,h2⟩:=II r (Zbu a) (EJ x a h);refine⟨h1,λy=>?_⟩;rw[vq,h2,ue,aJ];ext b
  ·rintro((h|h)|h)
   ·exact ZdE
   ·exact XN
   ·exact .inr Vs
  ·rintro(h|h|h)
   ·exact .inl Vs
   ·exact .inl XN
   ·exact Vs
def lO(ps:ZX)(l:Za):Za:=Vbwbal.sorted (l++(ps.filter λx=>l.contains x.1).map λx=>x.2)
theorem arE(ps:ZX)(n:Nat)(l:Za):ZaN Wh l=ZaN n (lO ps l):=rfl
theorem Ij(ps:ZX)(l:Za):(lO ps l).Pairwise Vg:=(II _ [] List.Pairwise.nil).1
theorem xq{ps:ZX}{l:Za}{y:Nat}:y∈lO ps l↔y∈l∨∃x∈l,(x,y)∈ps:=by
 unfold lO Vbwbal.sorted;rw[(II _ [] List.Pairwise.nil).2,b8,aO];ext b
 ·rintro(h|h|⟨p,hp,rfl⟩)
  ·cases h
  ·exact XN
  ·obtain⟨h1,h2⟩:=bD.mp hp;exact .inr ⟨p.1,bx.mp h2,h1⟩
 ·rintro(h|⟨x,hx,hp⟩)
  ·exact ZdE
  ·exact .inr (.inr ⟨(x,y),bD.mpr ⟨hp,bx.mpr hx⟩,rfl⟩)
theorem J9{l:Za}(h:ZcW):l.Nodup:=h.imp λa=>eB a
theorem ahg{ps:ZX}{l:Za}(hl:ZcW)(h:(lO ps l).length <=l.length):lO ps l=l:=by
 refine C8 (Ij ps l) hl λx=>⟨λhx=>?_,λhx=>xq.mpr (.inl hx)⟩;refine Hm λhn=>?_;have gn:(x::l).Nodup :=df.mpr ⟨hn,J9 hl⟩;have gj:(x::l) ⊆ lO ps l:=λy hy=>by
  rcases aJ.mp hy with e|e
  ·rw[e];exact hx
  ·exact xq.mpr Zcb
 have key:∀(a b:Za),a.Nodup->a ⊆ b->a.length<=b.length:=by
  intro a
  induction a with
  |nil=>intro b _ _;exact ZI
  |cons y r ih=>
   intro b hn hs;ext t;have hy:y∈b:=hs aY;have:=ih (b.erase y) h2 λz hz=>(List.mem_erase_of_ne λe:z=y=>h1 (e▸hz)).mpr (hs Zgv);rw[atn hy]at this;have hp:0<b.length:=List.length_pos_of_mem hy;rw[bb];omega
 have:=key _ _ gn gj;rw[bb]at this;omega
theorem aen{ps:ZX}{l:Za}(h:lO ps l=l):∀n,ZaN n l=l
 |0=>rfl
 |n+1=>by rw[arE,h,aen h n]
theorem aeo{ps:ZX}(hp:∀y∈ps,y.2<7):∀(n:Nat) (l:Za),ZcW->(∀x∈l,x<7)->7-l.length<=n->lO ps (ZaN n l)=ZaN n l
 |n,l,hl,hb,hn=>by
  have fi:∀x∈lO ps l,x<7:=λx hx=>by
   rcases xq.mp hx with h|⟨z,_,h⟩
   ·exact hb x h
   ·exact hp _ h
  have h7:=n9 7 _ (J9 (Ij ps l)) fi;by_cases hg:(lO ps l).length <=l.length
  ·have e:=ahg hl hg;rw[aen e n,e]
  ·cases n with
   |zero=>omega
   |succ n=>exact aeo hp n (lO ps l) (Ij ps l) fi Zb
theorem ael(ps:ZX):∀(n:Nat) (l:Za),∀x∈l,x∈ZaN n l
 |0,l,x,h=>h
 |n+1,l,x,h=>ael ps n _ x (xq.mpr XN)
theorem aem(ps:ZX)(j:Nat):∀(n:Nat) (l:Za),(∀x∈l,ZfW x)->∀x∈ZaN n l,ZfW x
 |0,l,h=>h
 |n+1,l,h=>aem ps j n _ λx hx=>by
  rcases xq.mp hx with q|⟨z,hz,q⟩
  ·exact h x q
  ·exact .step (h z hz) q
theorem arF{ps:ZX}(hp:∀y∈ps,y.2<7){j:Nat}(hj:j<7)(i:Nat):(ZaN 8 [j]).contains i=true↔ZfW i:=by
 rw[bx];ext b
 ·exact aem ps j 8 [j] (λx hx=>by rw[bo.mp hx];exact .refl _) i
 ·intro r;have hc:=aeo hp 8 [j] Zf (λx hx=>by rw[bo.mp hx];exact hj) Zf
  induction r with
  |refl=>exact ael ps 8 [j] j Zf
  |step _ hq ih=>
   rw[←hc];exact xq.mpr (.inr ⟨_,ih,hq⟩)
theorem anZ(ws:ZA)(k:Nat):(ws.map mask).getD k []=mask ZnA:=by rw[jL,jL,cx];cases ws[k]? <;>rfl
theorem aa8(w:Bytes):(mask w).length =w.length:=by unfold mask;rw[aq]
theorem ak2(w:Bytes):gB (mask w)=gB w:=by
 unfold gB;rw[aa8,aew _ λc=>K0];congr 2;cases w with
 |nil=>rfl
 |cons c r=>
  show(decide ((c::r).length =1)||decide (some (dX c)≠some 48))=(decide ((c::r).length =1)||decide (some c≠some 48));congr 1;refine rZ.mpr ?_;have:dX c=48↔c=48:=by
   ext b
   ·intro h;rw[←h];exact(aa7 (.inr (by rw[h];decide))).symm
   ·intro h;rw[h];decide
  simp[this]
def Plain(v:Bytes):Prop:=∀c∈v,letter c=true∨digit c=true
theorem aad:Plain (text "role"):=by unfold Plain;decide+kernel
theorem aae:Plain (text "person"):=by unfold Plain;decide+kernel
theorem aac:Plain (text "step"):=by unfold Plain;decide+kernel
theorem aah:Plain (text "by"):=by unfold Plain;decide+kernel
theorem aaj:Plain Zfa:=by unfold Plain;decide+kernel
theorem aab:Plain Ziq:=by unfold Plain;decide+kernel
theorem aai:Plain Ziz:=by unfold Plain;decide+kernel
theorem aaf:Plain (text "most"):=by unfold Plain;decide+kernel
theorem ar3(ws:ZA):(ws.map mask).all isName=ws.all isName:=by rw[mB];congr 1;funext w;exact ab4 w
theorem adj(ws:ZA):fZ ZbA=fZ ws:=by unfold fZ;simp only[anZ,aq,pB aad,pB aae,pB aac,pB aah,pB aaj,pB aab,pB aai,pB aaf,ab4,ak2,←Cm,ar3]
theorem ala{w:Bytes}(h:Plain w):mask w=w:=(pB h).mpr rfl
theorem w4{w:Bytes}(h:isName w=true):Plain w:=λc hc=>by unfold isName at h;rw[aQ,aQ]at h;have:=dh.mp h.2.1 c hc;rw[h_]at this;exact this
theorem aif{w:Bytes}(h:gB w=true):Plain w:=λc hc=>by unfold gB at h;rw[aQ,aQ]at h;exact .inr (dh.mp h.2.1 c hc)
theorem HL{ws:ZA}(h:ws.length=2):∃a b,ws=[a,b]:=by
 match ws,h with
 |[a,b],_=>exact Zja
theorem vL{ws:ZA}(h:ws.length=3):∃a b c,ws=[a,b,c]:=by
 match ws,h with
 |[a,b,c],_=>exact⟨a,b,c,rfl⟩
theorem HK{ws:ZA}(h:2<=ws.length):∃a b l,ws=a::b::l:=by
 match ws,h with
 |a::b::l,_=>exact⟨a,b,l,rfl⟩
theorem HJ{ws:ZA}(h:4<=ws.length):∃a b c d l,ws=a::b::c::d::l:=by
 match ws,h with
 |a::b::c::d::l,_=>exact⟨a,b,c,d,l,rfl⟩
theorem abJ:text "person"≠text "role":=by decide+kernel
theorem abH:text "step"≠text "role":=by decide+kernel
theorem abI:text "step"≠text "person":=by decide+kernel
theorem abR:text "after"≠text "role":=by decide+kernel
theorem abS:text "after"≠text "person":=by decide+kernel
theorem abQ:text "after"≠text "step":=by decide+kernel
theorem abF:text "unlike"≠text "role":=by decide+kernel
theorem abG:text "unlike"≠text "person":=by decide+kernel
theorem abE:text "unlike"≠text "step":=by decide+kernel
theorem EB:text "unlike"≠text "after":=by decide+kernel
theorem abO:text "alike"≠text "role":=by decide+kernel
theorem abP:text "alike"≠text "person":=by decide+kernel
theorem abN:text "alike"≠text "step":=by decide+kernel
theorem ED:text "alike"≠text "after":=by decide+kernel
theorem EC:text "alike"≠text "unlike":=by decide+kernel
theorem abL:text "most"≠text "role":=by decide+kernel
theorem abM:text "most"≠text "person":=by decide+kernel
theorem abK:text "most"≠text "step":=by decide+kernel
theorem AD:text "most"≠text "after":=by decide+kernel
theorem AA:text "most"≠text "unlike":=by decide+kernel
theorem AB:text "most"≠text "alike":=by decide+kernel
theorem adi{ws:ZA}(h:fZ ws=true):ws.map mask=ws:=by
 have key:∀l:List Bytes,(∀w∈l,Plain w)->l.map mask=l:=λl hl=>(gv λw hw=>ala (hl w hw)).trans (G_ l);obtain⟨f1,f2,f3,f4,f5⟩:=FI h;refine key ws ?_;unfold fZ at h;by_cases h1:ws.getD 0 []=text "role"
 ·ext bf;rw[af h1,aQ]at h;ext bp;intro w hw;rcases aJ.mp hw with e|hw
  ·rw[e,ha];exact aad
  ·rw[bo.mp hw];exact w4 h.2
 ext P
 ·ext a9;rw[ae h1,af h2,aQ]at h;ext bj;intro w hw;rcases aJ.mp hw with e|hw
  ·rw[e,ha];exact aae
  ·exact w4 (dh.mp h.2 w hw)
 ext Q
 ·ext a3;rw[ae h1,ae h2,af h3,aQ,aQ,aQ,bX,bX]at h;ext bq;have hc:c=text "by":=h.2.2.1;intro w hw;rcases aJ.mp hw with e|hw
  ·rw[e,ha];exact aac
  rcases aJ.mp hw with e|hw
  ·rw[e];exact w4 h.2.1
  rcases aJ.mp hw with e|hw
  ·rw[e,hc];exact aah
  ·exact w4 (dh.mp h.2.2.2 w hw)
 ext ah
 ·ext a8;rw[ae h1,ae h2,ae h3]at h;ext bo;have hn:¬(a=text "after"∨a=text "unlike"∨a=text "alike"):=by
   rw[ha];rintro(q|q|q)
   ·exact AD q
   ·exact AA q
   ·exact AB q
  have h:(if(a=text "after"∨a=text "unlike"∨a=text "alike")then _ else if a=text "most"then(decide ([a,b,c].length =3)&&(isName b&&gB c))else false)=true:=h;rw[ae hn,af ha,aQ,aQ]at h;intro w hw;rcases aJ.mp hw with e|hw
  ·rw[e,ha];exact aaf
  rcases aJ.mp hw with e|hw
  ·rw[e];exact w4 h.2.1
  ·rw[bo.mp hw];exact aif h.2.2
 ·ext ao;rw[ae h1,ae h2,ae h3,af g1,aQ]at h;ext bh;intro w hw;rcases aJ.mp hw with e|hw
  ·have g1:a=text "after"∨a=text "unlike"∨a=text "alike":=g1;rw[e];rcases g1 with q|q|q
   ·rw[q];exact aaj
   ·rw[q];exact aab
   ·rw[q];exact aai
  ·exact w4 (dh.mp h.2 w hw)
end
section
open Vbwbal (Plan Bytes Choice splitBy wordsOf letter digit isName numOf lineOf text stepNames personNames indexOf rolesOf before pairLine)
def gg(w:Bytes):Nat:=w.foldl (λn c=>10*n+(c-48)) 0
theorem dg{c:Nat}(h:digit c=true):48<=c/\c<=57:=by unfold digit at h;exact lX h
theorem aaO{w:Bytes}(hn:w≠[])(h:gB w=true):numOf w=some (gg w)/\gg w<=99:=by
 unfold gB at h;rw[aQ,aQ,h_,bX,bX,bX]at h;obtain⟨h1,h2,h3⟩:=h;ext b
 ·unfold numOf;rw[ae]
  ·rfl
  ·rintro(q|q|q|q)
   ·exact hn (Ha.mp q)
   ·omega
   ·rw[h2]at q;cases q
   ·rcases h3 with e|e
    ·omega
    ·exact e q.1
 ·unfold gg
  match w,hn,h1,h2 with
  |[a],_,_,h2=>
   rw[hZ,aQ]at h2;have:=dg h2.1;show 10*0+(a-48)<=99;omega
  |[a,b],_,_,h2=>
   rw[hZ,hZ,aQ,aQ]at h2;have:=dg h2.1;have:=dg h2.2.1;show 10*(10*0+(a-48))+(b-48)<=99;omega
theorem akC{w:Bytes}(h:gB w=false):∀m,numOf w=some m->99<m:=by
 intro m hm;unfold numOf at hm;by_cases q:w.isEmpty=true∨3<w.length∨(w.all digit)=false∨(w.head? =some 48/\1<w.length)
 ·rw[af q]at hm;cases hm
 ·rw[ae q]at hm;have e:=bY hm;have hl:w.length<=3:=Nat.le_of_not_lt λz=>q Zna;have ha:w.all digit=true:=by
   cases z:w.all digit with
   |true=>rfl
   |false=>exact absurd (.inr Zna) q
  have hh:¬(w.head? =some 48/\1<w.length):=λz=>q (.inr Znb);have h2:¬w.length<=2:=λz=>by
   have:gB w=true:=by
    unfold gB;rw[aQ,aQ,h_,bX,bX,bX];refine⟨z,ha,?_⟩;by_cases y:w.length=1
    ·exact .inl y
    ·refine .inr λx=>hh ⟨x,?_⟩;cases w with
     |nil=>cases x
     |cons a r=>
      rw[bb]at y⊢;omega
   rw[this]at h;cases h
  match w,hl,h2,ha,hh,e with
  |[a,b,c],_,_,ha,hh,e=>
   rw[hZ,aQ]at ha;have:=dg ha.1;have h0:a≠48:=λz=>hh ⟨by rw[z];rfl,Zf⟩;have e:10*(10*(10*0+(a-48))+(b-48))+(c-48)=m:=e;omega
  |[],_,h2,_,_,_=>exact absurd Zf h2
  |[_],_,h2,_,_,_=>exact absurd Zf h2
  |[_,_],_,h2,_,_,_=>exact absurd Zf h2
  |_::_::_::_::_,hl,_,_,_,_=>simp at hl
theorem abg(P:Plan)(r:ZA):Wx (text "role"::r)=(match r with
  |[n]=>if isName n=false then .error 1 else if P.roles.contains n=true then .error 2 else if 8<=P.roles.length then .error 5 else .ok {P with roles:=P.roles++[n]}
  |_=>.error 1):=by
 ext H;exact af rfl
theorem abh(P:Plan)(r:ZA):Wx (text "person"::r)=(match r with
  |n::l=>if(n::l).all isName=false then .error 1 else if(personNames P).contains n=true then .error 2 else(match rolesOf P l with
   | .error e=>.error e
   | .ok x=>if 7<=P.persons.length then .error 5 else .ok {P with persons:=P.persons++[⟨n,x,99⟩]})
  |[]=>.error 1):=by
 ext H;exact(ae abJ).trans US
theorem abf(P:Plan)(r:ZA):Wx (text "step"::r)=(match r with
  |n::b::l=>if b≠text "by"∨l.isEmpty=true∨(n::l).all isName=false then .error 1 else if(stepNames P).contains n=true then .error 2 else(match rolesOf P l with
   | .error e=>.error e
   | .ok x=>if 7<=P.steps.length then .error 5 else .ok {P with steps:=P.steps++[⟨n,x⟩]})
  |_=>.error 1):=by
 ext H;exact(ae abH).trans ((ae abI).trans US)
theorem abk(P:Plan)(r:ZA):Wx (text "after"::r)=(match r with
  |[a,b]=>UE 0 a b
  |_=>.error 1):=by
 ext H;exact(ae abR).trans ((ae abS).trans ((ae abQ).trans US))
theorem abe(P:Plan)(r:ZA):Wx (text "unlike"::r)=(match r with
  |[a,b]=>UE 1 a b
  |_=>.error 1):=by
 ext H;exact(ae abF).trans ((ae abG).trans ((ae abE).trans ((ae EB).trans US)))
theorem abj(P:Plan)(r:ZA):Wx (text "alike"::r)=(match r with
  |[a,b]=>UE 2 a b
  |_=>.error 1):=by
 ext H;exact(ae abO).trans ((ae abP).trans ((ae abN).trans ((ae ED).trans ((ae EC).trans US))))
theorem abi(P:Plan)(r:ZA):Wx (text "most"::r)=(match r with
  |[a,n]=>if isName a=false then .error 1 else(match numOf n with
   |none=>.error 1
   |some m=>if 99<m then .error 1 else match indexOf Zio a with
    |none=>.error 3
    |some _=>.ok {P with persons:=P.persons.map λx=>if x.name==a then{x with most:=m}else x})
  |_=>.error 1):=by
 ext H;exact(ae abL).trans ((ae abM).trans ((ae abK).trans ((ae AD).trans ((ae AA).trans ((ae AB).trans US)))))
theorem alp(P:Plan)(k:Bytes)(r:ZA)(h1:k≠text "role")(h2:k≠text "person")(h3:k≠text "step")(h4:k≠text "after")(h5:k≠text "unlike")(h6:k≠text "alike")(h7:k≠text "most"):Wx (k::r)=.error 1:=by unfold lineOf;exact(ae h1).trans ((ae h2).trans ((ae h3).trans ((ae h4).trans ((ae h5).trans ((ae h6).trans (ae h7))))))
theorem Od{b:Bool}(h:¬b=true):b=false:=by cases b with |true=>exact absurd rfl h|false=>rfl
theorem aiG{P:Plan}{i:Nat}{a b:Bytes}(h:(isName a&&isName b)=false):UE i a b=.error 1:=by unfold pairLine;rw[af h]
theorem aou(P:Plan){ws:ZA}(ok:oM ws)(h:fZ ws=false):Wx ws=.error 1:=by
 cases ws with
 |nil=>exact absurd rfl ok.ne
 |cons k r=>
  have hg:(k::r).getD 0 []=k:=rfl;unfold fZ at h;rw[hg]at h;by_cases h1:k=text "role"
  ·rw[af h1]at h;rw[h1,abg]
   match r,h with
   |[],_=>rfl
   |[n],h=>
    show(if isName n=false then _ else _)=_;have:isName n=false:=h;rw[af this]
   |_::_::_,_=>rfl
  ext G;by_cases h2:k=text "person"
  ·rw[af h2]at h;rw[h2,abh]
   match r,h with
   |[],_=>rfl
   |n::l,h=>
    have:(n::l).all isName=false:=by refine Od λq=>?_;have h:(decide (2<=(k::n::l).length)&&(n::l).all isName)=false:=h;rw[q,vG,adO]at h;simp at h
    show(if(n::l).all isName=false then _ else _)=_;rw[af this]
  rw[ae h2]at h;by_cases h3:k=text "step"
  ·rw[af h3]at h;rw[h3,abf]
   match r,h with
   |[],_=>rfl
   |[_],_=>rfl
   |n::b::l,h=>
    have:b≠text "by"∨l.isEmpty=true∨(n::l).all isName=false:=by
     refine Hm λq=>?_;have q1:b=text "by":=Hm λz=>q (.inl z);have q2:l≠[]:=λz=>q (.inr (.inl (Ha.mpr z)));have q3:(n::l).all isName=true:=by
      cases z:(n::l).all isName with
      |true=>rfl
      |false=>exact absurd Znb q
     have h:(decide (4<=(k::n::b::l).length)&&(isName n&&(decide (b=text "by")&&l.all isName)))=false:=h;rw[hZ,aQ]at q3;have hl:4<=(k::n::b::l).length :=by have:=sv.mpr q2;simp only[bb];omega
     rw[bu hl,bu q1,q3.1,q3.2]at h;cases h
    show(if b≠text "by"∨l.isEmpty=true∨(n::l).all isName=false then _ else _)=_;rw[af this]
  rw[ae h3]at h;have pair:∀i,(k=text "after"∨k=text "unlike"∨k=text "alike")->(match r with |[a,b]=>UE i a b|_=>Except.error 1)=Except.error 1:=λi hk=>by
   rw[af hk]at h
   match r,h with
   |[],_=>rfl
   |[_],_=>rfl
   |[a,b],h=>
    refine aiG ?_;have h:(isName a&&(isName b&&true))=false:=h;rw[vG]at h;exact h
   |_::_::_::_,_=>rfl
  by_cases h4:k=text "after"
  ·have:=pair 0 (.inl h4);rw[h4,abk];ext d
  by_cases h5:k=text "unlike"
  ·have:=pair 1 (.inr (.inl h5));rw[h5,abe];ext d
  by_cases h6:k=text "alike"
  ·have:=pair 2 (.inr (.inr h6));rw[h6,abj];ext d
  rw[ae (λq=>q.elim h4 λq=>q.elim h5 h6)]at h;by_cases h7:k=text "most"
  ·rw[af h7]at h;rw[h7,abi]
   match r,h,ok with
   |[],_,_=>rfl
   |[_],_,_=>rfl
   |[a,n],h,ok=>
    have h:(isName a&&gB n)=false:=h;show(if isName a=false then _ else _)=_;by_cases ha:isName a=false
    ·rw[af ha]
    ·rw[ae ha];have hm:gB n=false:=by
      cases z:isName a with
      |false=>exact ZaX ha
      |true=>
       rw[z,fm]at h;exact h
     cases e:numOf n with
     |none=>rfl
     |some m=>
      show(if 99<m then _ else _)=_;rw[af (akC hm m e)]
   |_::_::_::_,_,_=>rfl
  ·exact alp P k r h1 h2 h3 h4 h5 h6 h7
end
section
open Vbwbal (Plan Bytes Choice splitBy wordsOf letter digit isName numOf lineOf text stepNames personNames indexOf rolesOf before pairLine)
def jQ(P:Plan)(ws:ZA):Plan:=
 if ws.getD 0 []=text "role"then{P with roles:=P.roles++[ws.getD 1 []]}
 else if ws.getD 0 []=text "person"then{P with persons:=P.persons++[⟨ws.getD 1 [],e_ ((ws.drop 2).map (fS P)),99⟩]}
 else if ws.getD 0 []=text "step"then{P with steps:=P.steps++[⟨ws.getD 1 [],e_ ((ws.drop 3).map (fS P))⟩]}
 else if ws.getD 0 []=text "most"then{P with persons:=P.persons.map λx=>if x.name==ws.getD 1 []then{x with most:=gg (ws.getD 2 [])}else x}
 else if ws.getD 0 []=text "after"then{P with after:=P.after++[bP P ws]}
 else if ws.getD 0 []=text "unlike"then{P with unlike:=P.unlike++[bP P ws]}
 else{P with alike:=P.alike++[bP P ws]}
theorem aaV{P:Plan}(wf:ZG)(ns:ZA)(most:Nat)(w:Bytes)(l:ZA){α:Type}(f:Za->ZfT α)(hm:ns.length<=most):
  (if ns.contains w=true then(Except.error 2 :ZfT α)else match rolesOf P l with | .error e=>.error e| .ok x=>if most<=ns.length then .error 5 else f x)=
  if jn ns most w P.roles l=0 then f (e_ (l.map Wg))else .error (jn ns most w P.roles l):=by
 unfold jn;by_cases h1:ns.contains w=true
 ·simp only[af h1];rfl
 ·simp only[ae h1];by_cases h2:(l.all λx=>ZhM)=false
  ·simp only[af h2];have:∃n∈l,n∉P.roles:=by refine Hm λq=>?_;have:(l.all λx=>ZhM)=true:=dh.mpr λx hx=>bx.mpr (Hm λz=>q ⟨x,hx,z⟩);rw[this]at h2;cases h2
   rw[TJ l this];rfl
  ·simp only[ae h2];have:∀n∈l,n∈P.roles:=λn hn=>by
    have h3:(l.all λx=>ZhM)=true:=by
     cases z:(l.all λx=>ZhM)with
     |true=>rfl
     |false=>exact ZaX h2
    exact bx.mp (dh.mp h3 n hn)
   rw[TH wf.roles l this];show(if most<=ns.length then _ else _)=_;by_cases h4:ns.length=most
   ·simp only[af h4];rw[af Zb];rfl
   ·simp only[ae h4];rw[ae Zb];rfl
theorem EF{P:Plan}{w:Bytes}(h:(stepNames P).contains w=true):bK P w<P.steps.length:=by have h1:w∈stepNames P:=bx.mp h;have:bK P w<(stepNames P).length :=Hc ⟨w,h1,Zf⟩;unfold Vbwbal.stepNames at this;rw[aq]at this;exact this
theorem AF(P:Plan)(k a b:Bytes)(rb:Bool):kindB P [k,a,b] rb=if((stepNames P).contains a&&(stepNames P).contains b)=false then 3 else if(bP P [k,a,b]).1=(bP P [k,a,b]).2 then 4 else if(Xt k).contains (bP P [k,a,b])=true then 2 else if(decide (k=text "after")&&rb)=true then 4 else if(Xt k).length =12 then 5 else 0:=rfl
theorem Al(P:Plan)(a b:Bytes):bP P [text "after",a,b]=(bK P a,WZ):=af rfl
theorem Ak(P:Plan)(k a b:Bytes)(h:k≠text "after"):bP P [k,a,b]=(min ZaT WZ,max ZaT WZ):=ae h
theorem aiH(P:Plan)(oY:Nat)(a b:Bytes)(hn:Zs5)(ha:ZrS)(hb:ZrT):UE oY a b=if bK P a=bK P b then .error 4
  else if oY=0 then(if P.after.contains (bK P a,WZ)=true then .error 2 else if(before P.after 8 [bK P b]).contains ZaT=true then .error 4 else if 12<=P.after.length then .error 5 else .ok {P with after:=P.after++[(bK P a,bK P b)]})
  else if oY=1 then(if(P.unlike.contains ZgJ)=true then .error 2 else if 12<=P.unlike.length then .error 5 else .ok {P with unlike:=P.unlike++[(min (bK P a) (bK P b),max (bK P a) (bK P b))]})
  else(if(P.alike.contains ZgJ)=true then .error 2 else if 12<=P.alike.length then .error 5 else .ok {P with alike:=P.alike++[(min (bK P a) (bK P b),max (bK P a) (bK P b))]}):=by
 unfold pairLine;rw[ae (by rw[hn];simp),Li ha,Li hb];rfl
theorem Km(P:Plan)(wf:ZG)(rb:Bool)(k a b:Bytes)(ij:yP P [k,a,b] rb)(hn:Zs5)(oY:Nat)
  (hk:(k=text "after"/\oY=0)∨(k=text "unlike"/\oY=1)∨(k=text "alike"/\oY=2)):
  pairLine P oY a b=if kindB P [k,a,b] rb=0 then .ok (if k=text "after"then{P with after:=P.after++[bP P [k,a,b]]}else if k=text "unlike"then{P with unlike:=P.unlike++[bP P [k,a,b]]}else{P with alike:=P.alike++[bP P [k,a,b]]})else Zg4:=by
 have err:∀(n:Nat) (X:ZfT Plan),n≠0->kindB P [k,a,b] rb=n->(if kindB P [k,a,b] rb=0 then X else Zg4)=.error n:=λn X h0 e=>by rw[e,ae h0]
 have eok:∀(X:ZfT Plan),kindB P [k,a,b] rb=0->(if kindB P [k,a,b] rb=0 then X else Zg4)=X:=λX e=>by rw[af e]
 by_cases hc:((stepNames P).contains a&&(stepNames P).contains b)=false
 ·rw[err 3 _ Zj (by rw[AF,af hc])];unfold pairLine;rw[ae (by rw[hn];simp)];rw[zi]at hc;rcases hc with h|h
  ·rw[Lh h]
  ·rw[Lh h];cases indexOf ZiK a<;>rfl
 ·have fI:(stepNames P).contains a=true/\(stepNames P).contains b=true:=by
   rw[←aQ];cases z:((stepNames P).contains a&&(stepNames P).contains b)with
   |true=>rfl
   |false=>exact ZaX hc
  have la:=EF fI.1;have lb:=EF fI.2;rw[aiH P oY a b hn fI.1 fI.2];have other:∀(l:ZX) (X:ZfT Plan),k≠text "after"->Xt k=l->l.length<=12->bK P a≠bK P b->
    (if(l.contains ZgJ)=true then .error 2 else if 12<=l.length then .error 5 else X)=if kindB P [k,a,b] rb=0 then X else Zg4:=λl X j0 hl hlen h1=>by
   have ek:=AF P k a b rb;rw[ae hc,ZfR j0,hl,ae (show¬min ZaT WZ=max ZaT WZ by omega),aX j0,gK]at ek;by_cases h2:l.contains ZgJ=true
   ·ext cD
   ·rw[ae h2];rw[ae h2,ae Zj]at ek;by_cases h3:l.length=12
    ·rw[af h3]at ek;rw[af Zb];exact(err 5 _ Zj ek).symm
    ·rw[ae h3]at ek;rw[ae Zb];exact(eok _ ek).symm
  by_cases h1:bK P a=bK P b
  ·rw[af h1];have ek:=AF P k a b rb;rw[ae hc]at ek;have Bk:(bP P [k,a,b]).1=(bP P [k,a,b]).2:=by
    by_cases j0:k=text "after"
    ·rw[j0,Al];exact h1
    ·rw[ZfR j0];show min _ _=max _ _;omega
   rw[af Bk]at ek;exact(err 4 _ Zj ek).symm
  ·rw[ae h1];rcases hk with⟨hk,rfl⟩|⟨hk,rfl⟩|⟨hk,rfl⟩
   ·rw[af rfl];subst hk;rw[af rfl,Al];have et:Xt Zfa=P.after:=af rfl;have ek:=AF P Zfa a b rb;rw[ae hc,Al,et,ae (show¬(bK P a,WZ).1=(bK P a,WZ).2 from h1),bu rfl,fm]at ek;by_cases h2:P.after.contains (bK P a,WZ)=true
    ·ext cD
    ·rw[ae h2];rw[ae h2]at ek;have hb:=arF (ps:=P.after) (λy hy=>by have:=(XE Zf6).2;have:=wf.steps;omega) (j:=WZ) (by have:=wf.steps;omega) ZaT
     have hr:=ij rfl fI.1 fI.2;rw[Al]at hr;by_cases h3:rb=true
     ·rw[af h3]at ek;rw[af (hb.mpr (hr.mp h3))];exact(err 4 _ Zj ek).symm
     ·rw[ae h3]at ek;rw[ae λz=>h3 (hr.mpr (hb.mp z))];have hlen:=wf.after;by_cases h5:P.after.length=12
      ·rw[af h5]at ek;rw[af Zb];exact(err 5 _ Zj ek).symm
      ·rw[ae h5]at ek;rw[ae Zb];exact(eok _ ek).symm
   ·have j0:k≠text "after":=by rw[hk];exact EB
    rw[ae Zj,af rfl,ae j0,af hk,ZfR j0];exact other P.unlike _ j0 (by unfold toldOf;rw[ae j0,af hk]) wf.unlike h1
   ·have j0:k≠text "after":=by rw[hk];exact ED
    have hku:k≠text "unlike":=by rw[hk];exact EC
    rw[ae Zj,ae Zj,ae j0,ae hku,ZfR j0];exact other P.alike _ j0 (by unfold toldOf;rw[ae j0,ae hku]) wf.alike h1
theorem names2{a b:Bytes}(h:([a,b].all isName)=true):(isName a&&isName b)=true:=by rw[hZ,hZ,List.all_nil,vG]at h;exact h
theorem abp(P:Plan)(wf:ZG)(ws:ZA)(ok:oM ws)(rb:Bool)(ij:yP P ws rb)(hf:fZ ws=true):
  lineOf P ws=if iC P ws rb=0 then .ok (jQ P ws)else .error (iC P ws rb):=by
 ext ba;have Fm:=hf;unfold fZ at hf;unfold iC jQ;have rQ:¬fZ ws=false:=by rw[Fm];simp
 simp only[ae rQ];ext af
 ·ext bf;rw[af h1,aQ]at hf;simp only[af h1];ext bp;have hb:isName b=true:=hf.2;rw[ha,abg];show(if isName b=false then _ else _)=_;rw[ae (by rw[hb];simp)];show(if P.roles.contains b=true then _ else _)=if jn P.roles 8 b P.roles []=0 then Except.ok {P with roles:=P.roles++[b]}else .error (jn P.roles 8 b P.roles [])
  unfold jn;have hlen:=wf.roles;by_cases h2:P.roles.contains b=true
  ·rw[af h2];simp only[af h2];rfl
  ·rw[ae h2];simp only[ae h2];by_cases h3:P.roles.length=8
   ·rw[af Zb];simp[h3]
   ·rw[ae Zb];simp[h3]
 simp only[ae h1]at hf⊢;ext P
 ·ext a9;rw[af h2,aQ]at hf;simp only[af h2];ext bj;have hb:(b::l).all isName=true:=hf.2;rw[ha,abh];show(if(b::l).all isName=false then _ else _)=_;rw[ae (by rw[hb];simp)];ext co;have:=aaV wf Zio 7 b l (λx=>Except.ok {P with persons:=P.persons++[(⟨b,x,99⟩:Vbwbal.Person)]}) (by rw[hlen];exact wf.persons);rw[hlen]at this;ext d
 simp only[ae h2]at hf⊢;ext Q
 ·ext a3;rw[af h3,aQ,aQ,aQ]at hf;simp only[af h3];ext bq;have hb:isName b=true:=hf.2.1;have hc:c=text "by":=lX hf.2.2.1;have hd:(d::l).all isName=true:=hf.2.2.2;rw[ha,abf];show(if c≠text "by"∨(d::l).isEmpty =true∨(b::d::l).all isName=false then _ else _)=_;rw[ae (by
   rintro(q|q|q)
   ·exact q hc
   ·cases q
   ·rw[hZ,hb,hd]at q;cases q)]
  ext cz;have:=aaV wf ZiK 7 b (d::l) (λx=>Except.ok {P with steps:=P.steps++[(⟨b,x⟩:Vbwbal.Step)]}) (by rw[hlen];exact wf.steps);rw[hlen]at this;ext d
 simp only[ae h3]at hf⊢;ext ah
 ·ext a8;simp only[af h4];ext bo;have hn:¬([a,b,c].getD 0 []=text "after"∨[a,b,c].getD 0 []=text "unlike"∨[a,b,c].getD 0 []=text "alike"):=by
   rw[h4];rintro(q|q|q)
   ·exact AD q
   ·exact AA q
   ·exact AB q
  rw[ae hn,af h4,aQ,aQ]at hf;have hb:isName b=true:=hf.2.1;have hc:gB c=true:=hf.2.2;have x8:c≠[]:=(ok.word c Zf).1;obtain⟨e1,e2⟩:=aaO x8 hc;rw[ha,abi];show(if isName b=false then _ else _)=_;rw[ae (by rw[hb];simp),e1];show(if 99<gg c then _ else _)=if(if(personNames P).contains b=true then 0 else 3)=0 then Except.ok {P with persons:=P.persons.map λ(x:Vbwbal.Person)=>if x.name==b then{x with most:=gg c}else x}else .error (if(personNames P).contains b=true then 0 else 3)
  rw[ae Zb];by_cases h5:(personNames P).contains b=true
  ·rw[Li h5];simp only[af h5];rfl
  ·rw[Lh (Od h5)];simp only[ae h5];rfl
 simp only[ae h4];ext ao;rw[af g1,aQ]at hf;ext bh;have hn:(isName b&&isName c)=true:=names2 hf.2;ext cj;rcases Nk with q|q|q
 ·have:=Zln 0 (.inl Zjn);rw[show lineOf P [a,b,c]=UE 0 b c by rw[q,abk]];ext d
 ·have:=Zln 1 (.inr (.inl Zjn));rw[show lineOf P [a,b,c]=UE 1 b c by rw[q,abe]];ext d
 ·have:=Zln 2 (.inr (.inr Zjn));rw[show lineOf P [a,b,c]=UE 2 b c by rw[q,abj]];ext d
end
section
open Vbwbal (Plan Bytes Choice splitBy wordsOf letter digit isName numOf lineOf text stepNames personNames indexOf rolesOf before pairLine readFrom)
theorem KH{w:Bytes}(h:isName w=true):w.length<=12:=by unfold isName at h;rw[aQ,aQ,bX]at h;exact h.2.2
theorem Aq{ns:ZA}{most:Nat}{w:Bytes}{ks xs:ZA}(h:jn ns most w ks xs=0):w∉ns/\(∀x∈xs,x∈ks)/\ns.length≠most:=by
 unfold jn at h;by_cases h1:ns.contains w=true
 ·ext aB
 ext G;by_cases h2:(xs.all λx=>Uu)=false
 ·ext aC
 rw[ae h2]at h;by_cases h3:ns.length=most
 ·ext aD
 refine⟨λq=>h1 (bx.mpr q),λx hx=>?_,h3⟩;have h4:(xs.all λx=>Uu)=true:=by
  cases z:(xs.all λx=>Uu)with
  |true=>rfl
  |false=>exact ZaX h2
 exact bx.mp (dh.mp h4 x hx)
theorem adK(rs:Za):(e_ rs).length <=8:=by unfold e_;exact Zbe
theorem TF{P:Plan}(wf:ZG){l:ZA}(h:∀x∈l,x∈P.roles):∀r∈e_ (l.map Wg),r<P.roles.length:=λr hr=>by
 have bG:∀x∈l.map Wg,x<P.roles.length:=λx hx=>by obtain⟨n,hn,rfl⟩:=aO.mp hx;exact JY (h n hn)
 have h8:=wf.roles;rw[NM (λx hx=>by have:=bG x hx;omega)]at hr;exact bG r hr
theorem xw{P:Plan}{k a b:Bytes}{rb:Bool}(h:kindB P [k,a,b] rb=0):(stepNames P).contains a=true/\(stepNames P).contains b=true/\(bP P [k,a,b]).1≠(bP P [k,a,b]).2/\(Xt k).length ≠12:=by
 rw[AF]at h;by_cases h1:((stepNames P).contains a&&(stepNames P).contains b)=false
 ·ext aB
 ext G;by_cases h2:(bP P [k,a,b]).1=(bP P [k,a,b]).2
 ·ext aC
 rw[ae h2]at h;by_cases h3:(Xt k).contains (bP P [k,a,b])=true
 ·ext aD
 rw[ae h3]at h;by_cases h4:(decide (k=text "after")&&rb)=true
 ·rw[af h4]at h;cases h
 rw[ae h4]at h;by_cases h5:(Xt k).length =12
 ·rw[af h5]at h;cases h
 have h6:((stepNames P).contains a&&(stepNames P).contains b)=true:=by
  cases z:((stepNames P).contains a&&(stepNames P).contains b)with
  |true=>rfl
  |false=>exact ZaX h1
 rw[aQ]at h6;exact⟨h6.1,h6.2,h2,h5⟩
theorem Kn{P:Plan}{k a b:Bytes}(h1:ZrS)(h2:ZrT):(bP P [k,a,b]).1<P.steps.length/\(bP P [k,a,b]).2<P.steps.length:=by
 have la:=EF h1;have lb:=EF h2;by_cases hk:k=text "after"
 ·rw[hk,Al];exact⟨la,lb⟩
 ·rw[ZfR hk];ext b
  ·show min _ _<_;omega
  ·show max _ _<_;omega
theorem abq{P:Plan}{ws:ZA}{rb:Bool}(h:iC P ws rb=0):fZ ws=true:=by
 cases e:fZ ws with
 |true=>rfl
 |false=>
  unfold iC at h;rw[af e]at h;cases h
inductive Told(P:Plan)(ws:ZA):Prop
 |role (n:Bytes) (e:ws=[text "role",n]) (hn:isName n=true) (h:jn P.roles 8 n P.roles []=0) (t:jQ P ws={P with roles:=P.roles++[n]})
 |person (n:Bytes) (l:List Bytes) (e:ws=text "person"::n::l) (hn:isName n=true) (h:jn (personNames P) 7 n P.roles l=0) (t:jQ P ws={P with persons:=P.persons++[⟨n,e_ (l.map (fS P)),99⟩]})
 |step (n:Bytes) (l:List Bytes) (e:ws=text "step"::n::text "by"::l) (hn:isName n=true) (h:jn (stepNames P) 7 n P.roles l=0) (t:jQ P ws={P with steps:=P.steps++[⟨n,e_ (l.map (fS P))⟩]})
 |most (n w:Bytes) (e:ws=[text "most",n,w]) (hw:gB w=true) (h:n∈personNames P) (t:jQ P ws={P with persons:=P.persons.map λx=>if x.name==n then{x with most:=gg w}else x})
 |after (a b:Bytes) (e:ws=[text "after",a,b]) (h:∃rb,kindB P ws rb=0) (t:jQ P ws={P with after:=P.after++[bP P ws]})
 |unlike (a b:Bytes) (e:ws=[text "unlike",a,b]) (h:∃rb,kindB P ws rb=0) (t:jQ P ws={P with unlike:=P.unlike++[bP P ws]})
 |alike (a b:Bytes) (e:ws=[text "alike",a,b]) (h:∃rb,kindB P ws rb=0) (t:jQ P ws={P with alike:=P.alike++[bP P ws]})
theorem agN{P:Plan}{ws:ZA}{rb:Bool}(h:iC P ws rb=0):Told P ws:=by
 have hf:=abq h;ext ba;have rQ:¬fZ ws=false:=by rw[hf];simp
 have ht:jQ P ws=jQ P ws:=rfl;unfold iC at h;rw[ae rQ]at h;unfold fZ at hf
 conv at ht=>rhs;unfold jQ
 ext af
 ·rw[af h1]at h hf ht;ext bf;rw[aQ]at hf;ext bp;exact .role b (by rw[ha]) hf.2 h ht
 rw[ae h1]at h hf ht;ext P
 ·rw[af h2]at h hf ht;ext a9;rw[aQ]at hf;ext bj;have hn:(b::l).all isName=true:=hf.2;rw[hZ,aQ]at hn;exact .person b l (by rw[ha]) hn.1 h ht
 rw[ae h2]at h hf ht;ext Q
 ·rw[af h3]at h hf ht;ext a3;rw[aQ,aQ,aQ]at hf;ext bq;have hc:c=text "by":=lX hf.2.2.1;exact .step b (d::l) (by rw[ha,hc]) hf.2.1 h ht
 rw[ae h3]at h hf ht;ext ah
 ·rw[af h4]at h ht;ext a8;ext bo;have hn:¬([a,b,c].getD 0 []=text "after"∨[a,b,c].getD 0 []=text "unlike"∨[a,b,c].getD 0 []=text "alike"):=by
   rw[h4];rintro(q|q|q)
   ·exact AD q
   ·exact AA q
   ·exact AB q
  rw[ae hn,af h4,aQ,aQ]at hf;refine .most b c (by rw[ha]) hf.2.2 ?_ ht;by_cases q:(personNames P).contains b=true
  ·exact bx.mp q
  ·have h:(if(personNames P).contains b=true then 0 else 3)=0:=h;rw[ae q]at h;cases h
 rw[ae h4]at h ht;ext ao;ext bh;ext cj;rcases Nk with q|q|q
 ·subst q;exact .after b c rfl ⟨rb,h⟩ (ht.trans US)
 ·subst q;exact .unlike b c rfl ⟨rb,h⟩ (ht.trans ((ae EB).trans US))
 ·subst q;exact .alike b c rfl ⟨rb,h⟩ (ht.trans ((ae ED).trans (ae EC)))
theorem agt:Wf Vbwbal.empty where
 roles:=by decide
 persons:=by decide
 steps:=by decide
 after:=by decide
 unlike:=by decide
 alike:=by decide
 gd:=λy h=>by rcases h with h|h|h<;>cases h
 ne:=λy h=>by rcases h with h|h|h<;>cases h
 eF:=λx h=>by cases h
 mO:=λx h=>by cases h
 qK:=λx h=>by cases h
 qQ:=λx h=>by cases h
 wu:=λx h=>by cases h
 tq:=λx h=>by cases h
 pC:=λx h=>by cases h
 sS:=λx h=>by cases h
 w6:=sq
theorem kr{α:Type}{l:ZN}{a x:α}(h:x∈l++[a]):x∈l∨x=a:=by
 rcases b8.mp h with q|q
 ·exact X9
 ·exact .inr (bo.mp q)
theorem ags{P:Plan}(wf:ZG){ws:ZA}(t:Told P ws):Wf (jQ P ws):=by
 cases t with
 |role n e hn h t=>
  ext bc;have hl:=wf.roles;have hle:∀r,r<P.roles.length->r<(P.roles++[n]).length :=λr hr=>by rw[bS];omega
  exact{wf with
   roles:=by rw[bS];show P.roles.length+1<=8;omega
   qQ:=λx hx r hr=>hle r (wf.qQ x hx r hr)
   wu:=λx hx r hr=>hle r (wf.wu x hx r hr)
   tq:=λm hm=>(kr hm).elim (wf.tq m) λq=>by rw[q];exact KH hn}
 |person n l e hn h t=>
  ext bc;have hl:=wf.persons;ext co;exact{wf with
   persons:=by rw[bS];show P.persons.length+1<=7;omega
   eF:=λx hx=>(kr hx).elim (wf.eF x) λq=>by rw[q];exact ZC
   mO:=λx hx=>(kr hx).elim (wf.mO x) λq=>by rw[q];exact adK _
   qQ:=λx hx r hr=>(kr hx).elim (λq=>wf.qQ x q r hr) λq=>by rw[q]at hr;exact TF wf h2 r hr
   pC:=λx hx=>(kr hx).elim (wf.pC x) λq=>by rw[q];exact KH hn
   w6:=by
    rw[cA];refine mw.mpr ⟨wf.w6,Zf,λa ha b hb q=>h1 ?_⟩;have:b=n:=by simpa using hb
    rw[←this,←q];exact ha}
 |step n l e hn h t=>
  ext bc;have hl:=wf.steps;ext cz;exact{wf with
   steps:=by rw[bS];show P.steps.length+1<=7;omega
   gd:=λy hy=>by have:=XE hy;rw[bS];exact⟨Zb,Zb⟩
   qK:=λx hx=>(kr hx).elim (wf.qK x) λq=>by rw[q];exact adK _
   wu:=λx hx r hr=>(kr hx).elim (λq=>wf.wu x q r hr) λq=>by rw[q]at hr;exact TF wf h2 r hr
   sS:=λx hx=>(kr hx).elim (wf.sS x) λq=>by rw[q];exact KH hn}
 |most n w e hw h t=>
  rw[t];have hm:∀x,x∈(P.persons.map λx=>if x.name==n then{x with most:=gg w}else x)->∃y∈P.persons,x.name=y.name/\x.roles=y.roles/\(x.most=y.most∨x.most=gg w):=λx hx=>by
   obtain⟨y,hy,rfl⟩:=aO.mp hx;refine⟨y,hy,?_⟩;cases y.name==n
   ·exact⟨rfl,rfl,.inl rfl⟩
   ·exact⟨rfl,rfl,.inr rfl⟩
  have en:(P.persons.map λx=>if x.name==n then{x with most:=gg w}else x).map (λx=>x.name)=P.persons.map λx=>x.name:=by rw[bz];refine gv λy hy=>?_;show(if y.name==n then{y with most:=gg w}else y).name =y.name;cases y.name==n<;>rfl
  have h99:gg w<=99:=by
   by_cases q:w=[]
   ·rw[q];decide
   ·exact(aaO q hw).2
  exact{wf with
   persons:=by rw[aq];exact wf.persons
   eF:=λx hx=>by
    obtain⟨y,hy,_,_,e⟩:=hm x hx;rcases e with e|e
    ·rw[e];exact wf.eF y hy
    ·rw[e];exact h99
   mO:=λx hx=>by obtain⟨y,hy,_,e,_⟩:=hm x hx;rw[e];exact wf.mO y hy
   qQ:=λx hx r hr=>by obtain⟨y,hy,_,e,_⟩:=hm x hx;rw[e]at hr;exact wf.qQ y hy r hr
   pC:=λx hx=>by obtain⟨y,hy,e,_,_⟩:=hm x hx;rw[e];exact wf.pC y hy
   w6:=by rw[en];exact wf.w6}
 |after a b e h t=>
  ext aS;obtain⟨l1,l2⟩:=Kn (k:=Zfa) h1 h2;have h4:P.after.length≠12:=h4;have hl:=wf.after;exact{wf with
   after:=by rw[bS];show P.after.length+1<=12;omega
   gd:=λy hy=>by
    rcases hy with q|q
    ·rcases kr q with q|q
     ·exact XE X9
     ·rw[q];exact⟨l1,l2⟩
    ·exact XE (.inr q)
   ne:=λy hy=>by
    rcases hy with q|q
    ·rcases kr q with q|q
     ·exact VW X9
     ·rw[q];exact h3
    ·exact wf.ne y (.inr q)}
 |unlike a b e h t=>
  ext aS;obtain⟨l1,l2⟩:=Kn (k:=Ziq) h1 h2;have h4:P.unlike.length≠12:=by have et:Xt Ziq=P.unlike:=(ae EB).trans US;rw[←et];exact h4
  have hl:=wf.unlike;exact{wf with
   unlike:=by rw[bS];show P.unlike.length+1<=12;omega
   gd:=λy hy=>by
    rcases hy with q|q|q
    ·exact XE X9
    ·rcases kr q with q|q
     ·exact XE ZfQ
     ·rw[q];exact⟨l1,l2⟩
    ·exact XE Zig
   ne:=λy hy=>by
    rcases hy with q|q|q
    ·exact VW X9
    ·rcases kr q with q|q
     ·exact VW ZfQ
     ·rw[q];exact h3
    ·exact wf.ne y (.inr (.inr q))}
 |alike a b e h t=>
  ext aS;obtain⟨l1,l2⟩:=Kn (k:=Ziz) h1 h2;have h4:P.alike.length≠12:=by have et:Xt Ziz=P.alike:=(ae ED).trans (ae EC);rw[←et];exact h4
  have hl:=wf.alike;exact{wf with
   alike:=by rw[bS];show P.alike.length+1<=12;omega
   gd:=λy hy=>by
    rcases hy with q|q|q
    ·exact XE X9
    ·exact XE ZfQ
    ·rcases kr q with q|q
     ·exact XE Zig
     ·rw[q];exact⟨l1,l2⟩
   ne:=λy hy=>by
    rcases hy with q|q|q
    ·exact VW X9
    ·exact VW ZfQ
    ·rcases kr q with q|q
     ·exact VW Zig
     ·rw[q];exact h3}
theorem alr{P:Plan}(wf:ZG){ws:ZA}(ok:oM ws){rb:Bool}(ij:yP P ZbA rb)(h:iC P ZbA rb=0):Wx ws=.ok (jQ P ZbA):=by have hf:=abq h;rw[adj]at hf;have e:=adi hf;rw[e]at ij h⊢;rw[abp P wf ws ok rb ij hf,af h]
theorem als{P:Plan}(wf:ZG){ws:ZA}(ok:oM ws){rb:Bool}(ij:yP P ZbA rb)(h:iC P ZbA rb≠0):Wx ws=.error (iC P ZbA rb):=by
 by_cases hf:fZ ws=true
 ·have e:=adi hf;rw[e]at ij h⊢;rw[abp P wf ws ok rb ij hf,ae h]
 ·have hf:=Od hf;rw[aou P ok hf];unfold iC;rw[adj,af hf]
end
section
open Vbwbal (Plan Bytes Choice signer load goesWith fits unsigned complete canEnd completion choose subsets choiceOf signed barred ready)
theorem agp{P:Plan}(wf:ZG):eJ {plan:=P,absent:=[],entries:=[]} where
 wf:=wf
 wc:=⟨λy h=>Vf,λy h=>Vf,sq,λx=>ZI⟩
 ab:=List.Pairwise.nil
 vb:=λx h=>by cases h
 uU:=ZI
 texts:=λe h=>by cases h
theorem aep{P:Plan}{ab:Za}{c:Choice}{s x:Nat}(h:ZbB s x=0):ZS s=none/\YT x=true:=by
 unfold barred at h;by_cases h1:(ZS s).isSome =true
 ·ext aB
 ext G;by_cases h2:ready P c s=false
 ·ext aC
 rw[ae h2]at h;by_cases h3:YG x=false
 ·ext aD
 rw[ae h3]at h;by_cases h4:YT x=false
 ·rw[af h4]at h;cases h
 refine Zf4
 ·cases e:ZS s with
  |none=>rfl
  |some y=>
   rw[e]at h1;exact absurd rfl h1
 ·cases e:YT x with
  |true=>rfl
  |false=>exact ZdK h4
theorem aqN(R:Rc)(s x:Nat):choiceOf {R with entries:=R.entries++[.sign s x]}=choiceOf R++[(s,x)]:=by show signed (R.entries++[.sign s x])=_;rw[C_];rfl
theorem aqP(R:Rc)(e x:Nat)(t:Za):choiceOf {R with entries:=R.entries++[.amend e x t]}=choiceOf R:=by show signed (R.entries++[Zb6 x t])=_;rw[C_];exact fc _
theorem ago{R:Rc}(w:eJ R){s x:Nat}(hs:s<R.plan.steps.length)(hx:x<R.plan.persons.length)(hb:barred R.plan R.absent ZF s x=0):eJ {R with entries:=R.entries++[.sign s x]}:=by
 obtain⟨h1,h2⟩:=aep hb;have hl:load ZF x<cy R.plan x:=((nq _ _ _ _).mp h2).2.2;have hc:=aqN R s x;have hle:(choiceOf R).length <=R.entries.length:=O9 _ _;refine⟨w.wf,?_,w.ab,w.vb,?_,λe he=>?_⟩
 ·rw[hc];refine⟨λy hy=>?_,λy hy=>?_,?_,λy=>?_⟩
  ·rcases b8.mp hy with q|q
   ·exact w.wc.steps y q
   ·rw[bo.mp q];exact hs
  ·rcases b8.mp hy with q|q
   ·exact w.wc.persons y q
   ·rw[bo.mp q];exact hx
  ·rw[cA];refine mw.mpr ⟨w.wc.nd,Zf,λa ha b hb q=>?_⟩;have fi:b=s:=by simpa using hb
   rw[q,fi]at ha;exact zM.mp h1 ha
  ·have:=w.wc.room y;rw[rh];by_cases e:x=y
   ·ext x;exact hl
   ·rw[ae e];ext d
 ·rw[hc];have:=w.uU;show(R.entries++[_]).length -(choiceOf R++[(s,x)]).length <=40;rw[bS,bS];show R.entries.length+1-((choiceOf R).length +1)<=40;omega
 ·rcases b8.mp he with q|q
  ·exact w.texts e q
  ·rw[bo.mp q];exact ZI
theorem agq{R:Rc}(w:eJ R){e x:Nat}{t:Za}(ht:t.length<=60)(hf:R.entries.length-(choiceOf R).length <40):eJ {R with entries:=R.entries++[.amend e x t]}:=by
 have hc:=aqP R e x t;refine⟨w.wf,by rw[hc];exact w.wc,w.ab,w.vb,?_,λy hy=>?_⟩
 ·rw[hc];show(R.entries++[_]).length -_<=40;rw[bS];show R.entries.length+1-_<=40;omega
 ·rcases b8.mp hy with q|q
  ·exact w.texts y q
  ·rw[bo.mp q];exact ht
theorem agr{R:Rc}(w:eJ R){x:Nat}(hx:x<R.plan.persons.length)(k:Int):eJ {R with absent:=if k=1 then Vbwbal.insert x R.absent else R.absent.filter λy=>y != x}:=by
 refine⟨w.wf,w.wc,?_,λy hy=>?_,w.uU,w.texts⟩
 ·show List.Pairwise _ (if k=1 then _ else _);split
  ·exact EJ x _ w.ab
  ·exact w.ab.filter _
 ·have hy:y∈(if k=1 then Zbu R.absent else R.absent.filter λy=>y != x):=hy;split at hy
  ·rcases(ue x R.absent y).mp hy with q|q
   ·rw[q];exact hx
   ·exact w.vb y q
  ·exact w.vb y (bD.mp hy).1
theorem contains_insert(ab:Za)(x y:Nat):(Zbu ab).contains y=if y=x then true else ZiD:=by
 by_cases h:y=x
 ·rw[af h,bx];exact(ue x ab y).mpr XN
 ·rw[ae h,iS,bx,bx,ue];exact⟨λq=>q.resolve_left h,.inr⟩
theorem aqC(ab:Za)(x y:Nat):(ab.filter λz=>z != x).contains y=if y=x then false else ZiD:=by
 by_cases h:y=x
 ·rw[af h];refine af0.mpr λq=>?_;have:=(bD.mp (bx.mp q)).2;rw[h]at this;simp at this
 ·rw[ae h,iS,bx,bx,bD];exact⟨λq=>q.1,λq=>⟨q,ZmL⟩⟩
theorem N2:∀(k:Nat) (l ch:Za),ch∈Wv l->ch.Sublist l
 |0,l,ch,h=>by rw[nu,bo]at h;subst h;exact List.nil_sublist l
 |k+1,[],ch,h=>by cases h
 |k+1,x::r,ch,h=>by
  rcases b8.mp h with h|h
  ·ext br;exact(N2 k r c hc).cons_cons x
  ·exact(N2 YE r ch h).cons x
theorem ag9{l ch:Za}(h:ZnS):ch.Sublist l:=by unfold subsets at h;obtain⟨k,_,h⟩:=vo.mp h;exact N2 k l ch h
theorem ad9:∀l:List Nat,l∈choose l.length l
 |[]=>by rw[jK,nu];exact bo.mpr rfl
 |x::r=>my _ (aO.mpr ⟨r,ad9 r,rfl⟩)
theorem Qr(l:Za):l∈subsets l:=by unfold subsets;exact vo.mpr ⟨l.length,dS.mpr (Cd _),ad9 l⟩
theorem aqD(P:Plan)(ab:Za)(c:Choice)(aK:Zbc)(hl:ZeI){l m:Za}(hm:m.Nodup)(hs:∀s∈m,ZS s=none)(gj:l.Sublist m)
  (h:(YZ m c).isSome =true):(YZ l c).isSome =true:=by
 rw[←yG,←sZ P ab _ aK m c hm hs hl]at h;rw[←yG,←sZ P ab _ aK l c (gj.nodup hm) (λs q=>hs s (gj.subset q)) hl];obtain⟨g,hg⟩:=h;have hk:∀s,s∈keys (Wb Zbp l c)->s∈keys (Wb Zbp m c):=λs q=>by rw[t_]at q⊢;exact gj.subset q
 refine⟨g,λp hp=>?_,λs t h1 h2 h3=>ZcM (hk s h2) (hk t h3),λs t h1 h2 h3=>Uy h1 (hk s h2) (hk t h3),λx=>?_⟩
 ·ext bg;exact hg.opt _ (aO.mpr ⟨t,gj.subset ht,rfl⟩)
 ·have:=hg.room x;rw[t_]at this⊢;have h2:=gj.countP_le (p:=λs=>g s==x);omega
theorem aqB{P:Plan}{ab:Za}{c:Choice}(aK:Zbc)(hl:ZeI)(h:UH ab c=true):Zh6 c=none:=by
 unfold Vbwbal.core;refine Hd.mpr λl hm q=>?_;have:=aqD P ab c aK hl Vt (λs hs=>(xp.mp hs).2) (ag9 hm) h;cases e:YZ l c with
 |none=>rw[e]at this;cases this
 |some v=>rw[e]at q;cases q
theorem aqA{P:Plan}{ab:Za}{c:Choice}(h:UH ab c=false):∃l,Zh6 c=some l:=by
 cases e:Zh6 c with
 |some l=>exact⟨l,rfl⟩
 |none=>
  unfold Vbwbal.core at e;have:=Hd.mp e _ (Qr Z8);unfold canEnd completion at h;cases e2:YZ Z8 c with
  |none=>rw[e2]at this;exact absurd rfl this
  |some v=>rw[e2]at h;cases h
theorem akP{P:Plan}{ab:Za}{c:Choice}(h:Z9 c=[]):ZhN c=none:=by unfold Vbwbal.needed;refine Hd.mpr λl _ q=>?_;unfold canEnd completion at q;rw[h]at q;cases q
theorem akO{P:Plan}{ab:Za}{c:Choice}(h:Z9 c≠[]):∃l,ZhN c=some l:=by
 cases e:ZhN c with
 |some l=>exact⟨l,rfl⟩
 |none=>
  unfold Vbwbal.needed at e;have:=Hd.mp e _ (Qr _);refine absurd ?_ this;rw[vF];unfold canEnd completion;cases hu:Z9 c with
  |nil=>exact absurd hu h
  |cons s r=>
   have:complete P (ab++(List.range P.persons.length).filter λx=>!(ab.contains x)) Za5 c=none:=by
    unfold complete;refine afF.mpr λx hx=>?_;rw[ae];rw[aQ];rintro⟨q,_⟩;have hp:=Nr q;have hm:x∈ab++(List.range P.persons.length).filter λx=>!(ab.contains x):=by
     by_cases hc:x∈ab
     ·exact my _ hc
     ·refine je _ (bD.mpr ⟨hx,?_⟩);rw[vF];exact af0.mpr λz=>hc (bx.mp z)
    rw[bx.mpr hm]at hp;cases hp
   rw[this];rfl
end
end
section
open PySem PySem.Spec PyProof.Rows L2
open Vbwbal (Plan Bytes Choice)
local macro_rules | `(tactic| simp! [$xs,*]) => `(tactic| simp only [o9, v_, qF, nM, lL, wW, tF, wd, sP, wm, lM, vY, nO, lD, nN, vP, vS, zy, tC, tB, wt, vV, vW, wq, vU, zA, wb, sJ, wk, sO, sM, tH, tG, wR, tI, tJ, jT, rI, wY, wG, we, nU, wO, wU, wo, yz, wV, wX, wQ, o_, qH, sI, vR, tE, vT, vX, zB, zC, ui, uh, uj, EL, xB, ug, EK, xA, vN, sQ, ud, vO, rU, vQ, tD, wj, wg, zD, pb, qG, sN, yB, yA, Nat.succ_eq_add_one, uR, wD, zP, zQ, zO, V.str.injEq, wB, xm, mU, AI, Bs, fold_succ, List.set_cons_zero, List.set_cons_succ, List.getElem?_cons_zero, List.getElem?_cons_succ, Option.some.injEq, exists_eq_left', exists_eq_left, exists_and_left, and_assoc, true_and, and_true, V.bl.injEq, HO.lst.injEq, HO.ins.injEq, HO.tup.injEq, V.ref.injEq, V.int.injEq, decide_true, decide_false, if_true, if_false, List.cons.injEq, Bool.false_eq_true, au, jP, exists_const, exists_eq', exists_eq, and_self, List.append_nil, List.nil_append, List.cons_append, List.append_assoc, L2.start, List.map_cons, List.map_nil, List.length_cons, List.length_nil, Nat.zero_add, Nat.reduceAdd, Nat.reduceSub, List.replicate_succ, List.replicate_zero, wipe, $xs,*])
section
open Vbwbal (text rolesOf indexOf isName stepNames personNames)
abbrev asA:Zc:=["plan","words"]
theorem RT:aV asA Gk (aA Jb):=Zl
structure ny(A:Ad)(H:Hp)(p:Addr)(i:aW)(L:VP):Prop where
 nd:i.aH.Nodup
 ins:YX p=some (ZfE i.dx (mP i))
 pairs:YX i.d=some (.dK (xb i))
 lists:∀(k:Nat) a,i.aH[k]? =some a->H a=some (.lst (L k))
structure BQ(h:Hp)(L:VP)(P:Plan):Prop where
 roles:L 0=P.roles.map aE
 persons:L 1=P.persons.map λx=>Zdv
 steps:L 2=P.steps.map λx=>Zdv
 pr:∃rs:List Addr,L 3=rs.map V.ref/\ZjM ZrF
 sr:∃rs:List Addr,L 4=rs.map V.ref/\ZjM Zsg
 eF:L 5=P.persons.map λx=>Zjy
 after:∃rs:List Addr,L 6=rs.map V.ref/\Zgz P.after
 unlike:∃rs:List Addr,L 7=rs.map V.ref/\Zgz P.unlike
 alike:∃rs:List Addr,L 8=rs.map V.ref/\Zgz P.alike
def lI(A:Ad)(H:Hp)(p:Addr)(i:aW)(P:Plan):Prop:=∃L,Zfv/\BQ YX L P
theorem ny.dO{A:Ad}{H:Hp}{p:Addr}{i:aW}{L:VP}(h:Zfv):jd H i.aH:=λb hb=>by obtain⟨k,hk,e⟩:=y_.mp hb;exact⟨_,h.lists k b (by rw[fP hk,e])⟩
theorem ny.same{A:Ad}{H H':Hp}{p:Addr}{i:aW}{L:VP}(s:Zd)(h:Zfv):ny A H' p i L:=
 have sc:=iy s h.dO
 ⟨h.nd,sc.at h.ins,sc.at h.pairs,λk a e=>s.at (h.lists k a e)⟩
theorem BQ.same{h h':Hp}{L:VP}{P:Plan}(s:ah h h')(c:BQ h L P):BQ h' L P:=
 have f:∀{l:Ze} {ns:Yv},(∃rs:List Addr,l=rs.map V.ref/\ZjM ns)->∃rs:List Addr,l=rs.map V.ref/\Paired (λr (n:List Nat)=>h' r=some ZeY) rs ns:=λ⟨rs,e,q⟩=>Zq8;have g:∀{l:Ze} {ns:ZX},(∃rs:List Addr,l=rs.map V.ref/\Zgz ns)->∃rs:List Addr,l=rs.map V.ref/\Paired (λr (y:Nat×Nat)=>h' r=some ZkM) rs ns:=λ⟨rs,e,q⟩=>Zq8
 ⟨c.roles,c.persons,c.steps,f c.pr,f c.sr,c.eF,g c.after,g c.unlike,g c.alike⟩
theorem ny.yJ{A:Ad}{H:Hp}{p:Addr}{i:aW}{L:VP}{P:Plan}(h:Zfv)(c:BQ YX L P):Y4:=by have f:∀{a:Addr} {k:Nat} {ns:Yv},i.aH[k]? =some a->(∃rs:List Addr,L k=rs.map V.ref/\Paired (λr (n:List Nat)=>YX r=some ZeY) rs ns)->Zba ns:=λe ⟨rs,e2,q⟩=>ZoP;have g:∀{a:Addr} {k:Nat} {ns:ZX},i.aH[k]? =some a->(∃rs:List Addr,L k=rs.map V.ref/\Paired (λr (y:Nat×Nat)=>YX r=some ZkM) rs ns)->U3 ns:=λe ⟨rs,e2,q⟩=>ZoP;exact⟨(dQ h.ins).1,by rw[h.lists 0 _ rfl,c.roles],by rw[h.lists 1 _ rfl,c.persons],by rw[h.lists 2 _ rfl,c.steps],by rw[h.lists 5 _ rfl,c.eF],(dQ h.pairs).1,f (k:=3) rfl c.pr,f (k:=4) rfl c.sr,g (k:=6) rfl c.after,g (k:=7) rfl c.unlike,g (k:=8) rfl c.alike⟩
def IM(L:VP)(k:Nat)(l:Ze):Nat->Ze:=λj=>if j=k then l else L j
theorem ahJ{L:VP}{k j:Nat}{l:Ze}(h:j≠k):IM L k l j=L j:=ae h
theorem RD{L:VP}{k:Nat}{l:Ze}:IM L k l k=l:=af rfl
theorem ny.put{A:Ad}{H:Hp}{p a:Addr}{i:aW}{L:VP}{k:Nat}{l:Ze}(h:Zfv)(e:i.aH[k]? =some a):ny A (Zw a UR) p i (IM L k l)/\cut (Zw a UR) i.aH=cut H i.aH:=by
 have hc:cut (Zw a UR) i.aH=cut H i.aH:=uX (bI e);refine⟨⟨h.nd,by rw[hc];exact h.ins,by rw[hc];exact h.pairs,λj b q=>?_⟩,hc⟩;by_cases ej:j=k
 ·subst ej;rw[e]at q;cases q
  rw[au,RD]
 ·have hb:b≠a:=λz=>by subst z;obtain⟨hj,q1⟩:=iQ.mp q;obtain⟨hk,q2⟩:=iQ.mp e;exact ej ((afx (h₀:=hj) (h₁:=hk) h.nd).mp (q1.trans q2.symm))
  rw[ax hb,ahJ ej];exact h.lists j b q
def QM(A:Ad):Sp:=λvs H Q _=>∃(p w:Addr) (i:aW) (P:Plan) (ws:ZA),vs=[.ref p,.ref w]/\Zf2 P/\ZG/\YX w=some VD/\oM ws/\Told P ws/\
 ∀(H':Hp),Zai->Zjl (jQ P ws)->Q .ba H'
theorem ama(a:Nat):48<=a->a<=57->PySem.intText? ⟨#[a]⟩=some (((a-48 :Nat)):Int):=by
 have:∀a,a<58->48<=a->PySem.intText? ⟨#[a]⟩=some (((a-48 :Nat)):Int):=by decide+kernel
 exact λh1 h2=>this a Zb h1
theorem al9(a b:Nat):48<=a->a<=57->48<=b->b<=57->PySem.intText? ⟨#[a,b]⟩=some ((10*(a-48)+(b-48):Nat):Int):=by
 have:∀a,a<58->48<=a->∀b,b<58->48<=b->PySem.intText? ⟨#[a,b]⟩=some ((10*(a-48)+(b-48):Nat):Int):=by decide+kernel
 exact λh1 h2 h3 h4=>this a Zb h1 b Zb h3
theorem amb{w:Bytes}(hn:w≠[])(h:gB w=true):PySem.intText? ZlB=some ((gg w:Nat):Int):=by
 unfold gB at h;rw[aQ,aQ,bX]at h;obtain⟨h1,h2,_⟩:=h
 match w,hn,h1,h2 with
 |[a],_,_,h2=>
  rw[hZ,aQ]at h2;have:=dg h2.1;rw[show(gg [a])=a-48 by show 10*0+(a-48)=_;omega];exact ama a this.1 this.2
 |[a,b],_,_,h2=>
  rw[hZ,hZ,aQ,aQ]at h2;have q1:=dg h2.1;have q2:=dg h2.2.1;rw[show(gg [a,b])=10*(a-48)+(b-48) by show 10*(10*0+(a-48))+(b-48)=_;omega];exact al9 a b q1.1 q1.2 q2.1 q2.2
theorem ahF{ps:List Vbwbal.Person}{n:Bytes}{m:Nat}(hd:(ps.map λx=>x.name).Nodup)(hn:n∈ps.map λx=>x.name):
  (ps.map λx=>Zjy).set ((ps.map λx=>x.name).findIdx λy=>y==n) (nat m)=(ps.map λx=>if x.name==n then{x with most:=m}else x).map λx=>Zjy:=by
 induction ps with
 |nil=>cases hn
 |cons a r ih=>
  rw[cw]at hd hn;obtain⟨h1,h2⟩:=df.mp hd;rw[cw,cw,cw,List.findIdx_cons,cw];by_cases e:a.name=n
  ·have e':(a.name==n)=true:=by simp[e]
   rw[e'];simp only[cond_true,iD];rw[List.set_cons_zero];congr 1;rw[bz];refine gv λy hy=>?_;have:¬(y.name==n)=true:=λq=>h1 (by rw[e,←eq_of_beq q];exact aO.mpr ⟨y,hy,rfl⟩)
   show nat y.most=nat (if(y.name==n)=true then{y with most:=m}else y).most;rw[ae this]
  ·have e':(a.name==n)=false:=by simpa using e
   rw[e'];simp only[cond_false,kg,i5];rw[List.set_cons_succ,ih h2 ((aJ.mp hn).resolve_left λq=>Uz)]
section
variable {P:Program}{w:World}{K:PySem.W.Frag}{mg:Zy}{base:Heap}{A:Ad}
theorem ajd{f:Addr}{fd:FuncData}(T:Zm)(Fz:Zv "role_numbers" Gr 1 (QR A))(yp:Ztc)(F:Zo "tell" "tell" Jb f fd):X5 Gk (QM A):=by
 have nd:=RT.nd;refine F.ok RT Zk Zn
 ·ext aj
 ·obtain⟨p,w,i,P,ws,rfl,⟨L,hL,hC⟩,wf,hw,ok,tl,k⟩:=h;ext j;ext bC;ext a7;have eG:=(dQ hw).1;ext aT;refine⟨_,(ak (bg Zab (ak (dU (Wo Yp Zi7))) (ak (bg Zab (ao (dU (Wo Yp Zi7))
   (ao (dU (Wo Yp (aa (az Fz hr rfl (ZL Zka)) ai)))
   (ak (dU (dq K dE ir iq gO (aD K (pv 0) rfl) (aa (bE T.ac7 rfl) ai)))))) (ak (bg (bN cS (bj (bF K) (pv 1) aR (λ_ _=>rfl)) cW (bB _)) (ao (dU (dq K dE ir iq gO (aD K (pv 0) rfl) (aa (bj (bF K) (pv 1) aR (λ_ _=>rfl)) ai)))
   (ak (dU (dq K dE ir iq gO (aD K (pv 0) rfl) (aa (az Fz hr rfl (aa (pv 0) (aa (mQ (mK K) (pv 1) (kX aR) pA) ai))) ai))))) (ak (bg (bN cS (bj (bF K) (pv 1) aR (λ_ _=>rfl)) cW (bB _)) (ak (Kf (w9 arp (by rfl) T.aa3 arP (aa (bj (bF K) (pv 1) aR (λ_ _=>rfl)) ai)) (Ki (aD K (pv 0) rfl) (dq K dE Ga Oz (Em K) (aD K (pv 0) rfl) (aa (bj (bF K) (pv 1) aR (λ_ _=>rfl)) ai)) set_list))) (ak (dU (dq K dE ir iq gO (jj hu (aD K (pv 0) rfl) (bj (bF K) (pv 1) aR (λ_ _=>rfl)) (λ_ _=>rfl)) (aa (az yp hr rfl (aa (pv 0) (aa (pv 1) ai))) ai)))))))))))),?_⟩
  ext a;refine Ztn;rw[eW];have iJ:=hL.yJ hC;cases tl with
  |role n e hn h t=>
   ext F;rw[bu (show[text "role",n].getD 0 []=text "role"from rfl)];ext e;simp! [iJ.ins,T.bU,n1,nX,cQ iJ.roles];refine⟨_,UQ,_,bQ (j:=1) rfl,_,hL.lists 0 _ rfl,by rw[hC.roles,aq];have:=wf.roles;omega,?_⟩;obtain⟨q1,c1⟩:=hL.put (k:=0) (a:=i.r) (l:=L 0++[aE n]) rfl;refine Zp0;rw[c1];exact⟨by rw[RD,hC.roles,cA];rfl,hC.persons,hC.steps,hC.pr,hC.sr,hC.eF,hC.after,hC.unlike,hC.alike⟩
  |person n l e hn h t=>
   ext F;rw[aX (show¬(text "person"::n::l).getD 0 []=text "role"from abJ)];ext k;rw[eW,bu (show(text "person"::n::l).getD 0 []=text "person"from rfl)];ext e;simp! [iJ.ins,T.bU,n2,kZ,cQ iJ.persons];have cC:=wf.persons;have aC:=ok.len;refine⟨_,UQ,_,bQ (j:=1) rfl,_,hL.lists 1 _ rfl,by rw[hC.persons,aq];omega,?_⟩;obtain⟨q1,c1⟩:=hL.put (k:=1) (a:=i.p) (l:=L 1++[aE n]) rfl;obtain⟨H1,fw⟩:∃H1,H1=Zw i.p (.lst (L 1++[aE n])):=Zs;ext cF;have AV:H1 i.pr=some (.lst (L 3)):=q1.lists 3 _ rfl;have Lw:H1 i.r=some Zey:=by rw[←hC.roles];exact q1.lists 0 _ rfl
   have gQ:H1 w=some (.lst Zra):=(dQ (by rw[c1];exact hw)).1;refine⟨_,_,_,uB,T.bU,n4,_,DW i,cQ AV,_,ZaZ,λa1 j6=>?_⟩;obtain⟨H2,fL⟩:∃H2,H2=Yo a1 (.lst (ja Zra (some 2) none)):=Zs;have s2:Yc H2:=by rw[fL];exact a0 j6
   have jD:H2 a1=some ZeO:=by rw[fL,au];exact cb Zhm (BC _ 2)
   ext bA;have amH:(L 3).length <=7:=by obtain⟨rs,e,q⟩:=hC.pr;rw[e,aq,du q,aq];exact wf.persons
   refine⟨i.pr,rfl,_,qM.at AV,Zb,?_⟩;obtain⟨q3,c3⟩:=q2.put (k:=3) (a:=i.pr) (l:=L 3++[.ref r3]) rfl;obtain⟨H4,rW⟩:∃H4,H4=U6 i.pr (.lst (L 3++[.ref r3])):=Zs;rw[←rW]at q3 c3⊢;have LM:H4 i.m=some (.lst (L 5)):=q3.lists 5 _ rfl;refine⟨_,_,_,(dQ q3.ins).1,T.bU,n6,_,Ac i,cQ LM,i.m,rfl,_,LM,by rw[hC.eF,aq];omega,?_⟩;obtain⟨q5,c5⟩:=q3.put (k:=5) (a:=i.m) (l:=L 5++[V.int 99]) rfl;have sc:ZlH:=by rw[←c1];exact iy qM q1.dO
   have jE:=hC.same sc;refine k _ (by rw[c5,c3];exact sc) ⟨_,q5,?_⟩;rw[c5,c3];refine⟨jE.roles,?_,jE.steps,?_,jE.sr,?_,jE.after,jE.unlike,jE.alike⟩
   ·show L 1++[aE n]=_;rw[hC.persons,cA];rfl
   ·obtain⟨rs,e,q⟩:=jE.pr;refine⟨rs++[r3],?_,?_⟩
    ·show L 3++[.ref r3]=_;rw[e,cA];rfl
    ·rw[cA];exact ql q (d_ jY Lz)
   ·show L 5++[V.int 99]=_;rw[hC.eF,cA];rfl
  |step n l e hn h t=>
   ext F;rw[aX (show¬(text "step"::n::text "by"::l).getD 0 []=text "role"from abH)];ext k;rw[eW,aX (show¬(text "step"::n::text "by"::l).getD 0 []=text "person"from abI)];ext k;rw[eW,bu (show(text "step"::n::text "by"::l).getD 0 []=text "step"from rfl)];ext e;simp! [iJ.ins,T.bU,n3,kY,cQ iJ.steps];have cC:=wf.steps;have aC:=ok.len;refine⟨_,UQ,_,bQ (j:=1) rfl,_,hL.lists 2 _ rfl,by rw[hC.steps,aq];omega,?_⟩;obtain⟨q1,c1⟩:=hL.put (k:=2) (a:=i.s) (l:=L 2++[aE n]) rfl;obtain⟨H1,fw⟩:∃H1,H1=Zw i.s (.lst (L 2++[aE n])):=Zs;ext cF;have AV:H1 i.sr=some (.lst (L 4)):=q1.lists 4 _ rfl;have Lw:H1 i.r=some Zey:=by rw[←hC.roles];exact q1.lists 0 _ rfl
   have gQ:H1 w=some (.lst ZpF):=(dQ (by rw[c1];exact hw)).1;refine⟨_,_,_,uB,T.bU,n5,_,DV i,cQ AV,_,ZaZ,λa1 j6=>?_⟩;obtain⟨H2,fL⟩:∃H2,H2=Yo a1 (.lst (ja ZpF (some 3) none)):=Zs;have s2:Yc H2:=by rw[fL];exact a0 j6
   have jD:H2 a1=some ZeO:=by rw[fL,au];exact cb Zhm (BC _ 3)
   ext bA;have amH:(L 4).length <=7:=by obtain⟨rs,e,q⟩:=hC.sr;rw[e,aq,du q,aq];exact wf.steps
   refine⟨i.sr,rfl,_,qM.at AV,Zb,?_⟩;obtain⟨q3,c3⟩:=q2.put (k:=4) (a:=i.sr) (l:=L 4++[.ref r3]) rfl;have sc:ZlH:=by rw[←c1];exact iy qM q1.dO
   have jE:=hC.same sc;refine k _ (by rw[c3];exact sc) ⟨_,q3,?_⟩;rw[c3];refine⟨jE.roles,jE.persons,?_,jE.pr,?_,jE.eF,jE.after,jE.unlike,jE.alike⟩
   ·show L 2++[aE n]=_;rw[hC.steps,cA];rfl
   ·obtain⟨rs,e,q⟩:=jE.sr;refine⟨rs++[r3],?_,?_⟩
    ·show L 4++[.ref r3]=_;rw[e,cA];rfl
    ·rw[cA];exact ql q (d_ jY Lz)
  |most n v e hv h t=>
   ext F;rw[aX (show¬[text "most",n,v].getD 0 []=text "role"from abL)];ext k;rw[eW,aX (show¬[text "most",n,v].getD 0 []=text "person"from abM)];ext k;rw[eW,aX (show¬[text "most",n,v].getD 0 []=text "step"from abK)];ext k;rw[eW,bu (show[text "most",n,v].getD 0 []=text "most"from rfl)];ext e;simp! [iJ.ins,T.bU,n2,kZ,n6,Ac,cQ iJ.persons];have hvn:v≠[]:=(ok.word v Zf).1;have hv2:v.length<=2:=by unfold gB at hv;rw[aQ,bX]at hv;exact hv.1
   have da:H i.p=some Zq6:=by rw[iJ.persons];unfold Vbwbal.personNames;rw[bz];rfl
   have bG:((personNames P).findIdx λy=>y==n)<P.persons.length:=by have:((personNames P).findIdx λy=>y==n)<(personNames P).length :=Hc ⟨n,h,Zf⟩;unfold Vbwbal.personNames at this⊢;rw[aq]at this;exact this
   refine⟨_,UQ,_,bQ (j:=2) rfl,⟨v.toArray⟩,rfl,_,amb hvn hv,by rw[sR];omega,_,UQ,_,bQ (j:=1) rfl,DT da h ⟨_,_,rfl,hL.lists 5 _ rfl,_,EG (by rw[hC.eF,aq];exact bG),?_⟩⟩;obtain⟨q1,c1⟩:=hL.put (k:=5) (a:=i.m) (l:=(L 5).set ((personNames P).findIdx λy=>y==n) (nat (gg v))) rfl;rw[show V.int ((gg v:Nat):Int)=nat (gg v)from rfl];refine Zp0;rw[c1];have en:∀{β:Type} (f:Vbwbal.Person->β),(∀x:Vbwbal.Person,f {x with most:=gg v}=f x)->(P.persons.map λx=>if x.name==n then{x with most:=gg v}else x).map f=P.persons.map f:=λf hf=>by
    rw[bz];refine gv λx _=>?_;show f (if x.name==n then{x with most:=gg v}else x)=f x;cases x.name==n
    ·rfl
    ·exact hf x
   refine⟨hC.roles,?_,hC.steps,?_,hC.sr,?_,hC.after,hC.unlike,hC.alike⟩
   ·show L 1=_;rw[hC.persons,en (λx=>Zdv) λ_=>rfl]
   ·obtain⟨rs,e,q⟩:=hC.pr;refine⟨rs,e,?_⟩;rw[en (λx=>x.roles) λ_=>rfl];exact q
   ·show(L 5).set _ _=_;rw[hC.eF];exact ahF wf.w6 h
  |after a b e h t=>
   ext F;rw[aX (show¬[text "after",a,b].getD 0 []=text "role"from abR)];ext k;rw[eW,aX (show¬[text "after",a,b].getD 0 []=text "person"from abS)];ext k;rw[eW,aX (show¬[text "after",a,b].getD 0 []=text "step"from abQ)];ext k;rw[eW,aX (show¬[text "after",a,b].getD 0 []=text "most"from λq=>AD q.symm)];ext aN;have dg:bZ H i.d (aE Zfa) (some (.ref i.a)):=by rw[←qJ];exact ZkR iJ.pairs
   have fY:H i.a=some (.lst (L 6)):=hL.lists 6 _ rfl;have rK:(L 6).length <=12:=by obtain⟨rs,e,q⟩:=hC.after;rw[e,aq,du q];exact wf.after
   refine⟨_,UQ,_,g0,_,dg,cQ fY,p,w,i,P,_,rfl,iJ,eG,(by show 2<3;decide),bx.mp m1,bx.mp m2,λH1 t1 s1 xF ht=>⟨i.a,rfl,_,s1.at fY,Zb,?_⟩⟩;have q0:=hL.same s1;obtain⟨q1,c1⟩:=q0.put (k:=6) (a:=i.a) (l:=L 6++[.ref t1]) rfl;ext aK;refine⟨eI.roles,eI.persons,eI.steps,eI.pr,eI.sr,eI.eF,?_,eI.unlike,eI.alike⟩;obtain⟨rs,e,q⟩:=eI.after;refine Zkm;show L 6++[.ref t1]=_;rw[e,cA];rfl
  |unlike a b e h t=>
   ext F;rw[aX (show¬[text "unlike",a,b].getD 0 []=text "role"from abF)];ext k;rw[eW,aX (show¬[text "unlike",a,b].getD 0 []=text "person"from abG)];ext k;rw[eW,aX (show¬[text "unlike",a,b].getD 0 []=text "step"from abE)];ext k;rw[eW,aX (show¬[text "unlike",a,b].getD 0 []=text "most"from λq=>AA q.symm)];ext aN;have dg:bZ H i.d (aE Ziq) (some (.ref i.u)):=by rw[←qJ];exact Zep iJ.pairs
   have fY:H i.u=some (.lst (L 7)):=hL.lists 7 _ rfl;have rK:(L 7).length <=12:=by obtain⟨rs,e,q⟩:=hC.unlike;rw[e,aq,du q];exact wf.unlike
   refine⟨_,UQ,_,g0,_,dg,cQ fY,p,w,i,P,_,rfl,iJ,eG,(by show 2<3;decide),bx.mp m1,bx.mp m2,λH1 t1 s1 xF ht=>⟨i.u,rfl,_,s1.at fY,Zb,?_⟩⟩;have q0:=hL.same s1;obtain⟨q1,c1⟩:=q0.put (k:=7) (a:=i.u) (l:=L 7++[.ref t1]) rfl;ext aK;refine⟨eI.roles,eI.persons,eI.steps,eI.pr,eI.sr,eI.eF,eI.after,?_,eI.alike⟩;obtain⟨rs,e,q⟩:=eI.unlike;refine Zkm;show L 7++[.ref t1]=_;rw[e,cA];rfl
  |alike a b e h t=>
   ext F;rw[aX (show¬[text "alike",a,b].getD 0 []=text "role"from abO)];ext k;rw[eW,aX (show¬[text "alike",a,b].getD 0 []=text "person"from abP)];ext k;rw[eW,aX (show¬[text "alike",a,b].getD 0 []=text "step"from abN)];ext k;rw[eW,aX (show¬[text "alike",a,b].getD 0 []=text "most"from λq=>AB q.symm)];ext aN;have dg:bZ H i.d (aE Ziz) (some (.ref i.l)):=by rw[←qJ];exact Zer iJ.pairs
   have fY:H i.l=some (.lst (L 8)):=hL.lists 8 _ rfl;have rK:(L 8).length <=12:=by obtain⟨rs,e,q⟩:=hC.alike;rw[e,aq,du q];exact wf.alike
   refine⟨_,UQ,_,g0,_,dg,cQ fY,p,w,i,P,_,rfl,iJ,eG,(by show 2<3;decide),bx.mp m1,bx.mp m2,λH1 t1 s1 xF ht=>⟨i.l,rfl,_,s1.at fY,Zb,?_⟩⟩;have q0:=hL.same s1;obtain⟨q1,c1⟩:=q0.put (k:=8) (a:=i.l) (l:=L 8++[.ref t1]) rfl;ext aK;refine⟨eI.roles,eI.persons,eI.steps,eI.pr,eI.sr,eI.eF,eI.after,eI.unlike,?_⟩;obtain⟨rs,e,q⟩:=eI.alike;refine Zkm;show L 8++[.ref t1]=_;rw[e,cA];rfl
end
end
section
open Vbwbal (text splitBy wordsOf lineOf readFrom)
abbrev asz:Zc:=["plan","text","number","words","kind"]
theorem RS:aV asz Gj (aA Ja):=Zl
theorem TN{P q:Plan}{n:Nat}{l:Bytes}{r:ZA}(h:Wx Zjd=.ok q):Zjz n (l::r)=readFrom q Wh r:=by rw[show Zjz n (l::r)=(match lineOf P Zjd with |Except.error k=>Except.error (n,k)|Except.ok q=>readFrom q Wh r)from rfl,h]
theorem ahV{P:Plan}{n k:Nat}{l:Bytes}{r:ZA}(h:Wx Zjd=.error k):Zjz n (l::r)=.error (n,k):=by unfold Vbwbal.readFrom;rw[h]
theorem CV(sep:Nat):∀l:List Nat,(WO l).length <=l.length+1/\∀x∈WO l,x.length<=l.length
 |[]=>⟨ZC,λx hx=>by rw[show splitBy sep []=[[]]from rfl,bo]at hx;rw[hx];exact ZC⟩
 |c::r=>by
  obtain⟨h1,h2⟩:=CV sep r;unfold splitBy;split
  ·refine⟨by rw[bb,bb];omega,λx hx=>?_⟩;rcases aJ.mp hx with q|q
   ·rw[q];exact ZI
   ·have:=h2 x q;rw[bb];omega
  ·cases h4:WO r with
   |nil=>exact absurd h4 (lQ sep r)
   |cons y l=>
    rw[h4]at h1 h2;refine⟨by rw[bb,bb]at *;omega,λx hx=>?_⟩;rcases aJ.mp hx with q|q
    ·have:=h2 y aY;rw[q,bb,bb];omega
    ·have:=h2 x ZdV;rw[bb];omega
theorem agf{t l:Bytes}(ht:t.length<=4000)(hl:l∈Xh t)(hn:wordsOf l≠[]):oM Zjd/\oM ((wordsOf l).map mask):=by
 have h1:=(CV 10 t).2 l hl;have h2:=CV 32 l;have hw:∀w∈wordsOf l,w≠[]/\w.length<=5000:=λw hw=>⟨agi hw,by unfold Vbwbal.wordsOf at hw;have:=h2.2 w (bD.mp hw).1;omega⟩
 have hlen:(wordsOf l).length <=5000:=by unfold Vbwbal.wordsOf;have:=eZ (λw:Bytes=>w.isEmpty==false) (UG l);omega
 refine⟨⟨hn,hw,hlen⟩,λe=>hn (O7.mp e),λw hm=>?_,by rw[aq];exact hlen⟩;obtain⟨v,hv,rfl⟩:=aO.mp hm;obtain⟨q1,q2⟩:=hw v hv;refine⟨λe=>q1 (O7.mp e),by rw[aa8];exact q2⟩
def QL(A:Ad):Sp:=λvs H Q _=>∃(p a:Addr) (i:aW) (t:Bytes),vs=[.ref p,.ref a]/\Zf2 Vbwbal.empty/\YX a=some ZmU/\t.length<=4000/\
 (∀q,Vbwbal.read t=.ok q->∀H',Zai->Zjl q->Wf q->Q (nat 0) H')/\
 ∀n k,Vbwbal.read t=.error (n,k)->∀H',Zai->0<n->Q (nat (100*n+k)) H'
theorem lI.same{A:Ad}{H H':Hp}{p:Addr}{i:aW}{P:Plan}(s:Zd)(h:Zf2 P):Zjl P:=by obtain⟨L,h1,h2⟩:=h;exact⟨L,h1.same s,h2.same (iy s h1.dO)⟩
theorem lI.dO{A:Ad}{H:Hp}{p:Addr}{i:aW}{P:Plan}(h:Zf2 P):jd H i.aH:=let⟨_,h1,_⟩:=h;h1.dO
theorem lI.yJ{A:Ad}{H:Hp}{p:Addr}{i:aW}{P:Plan}(h:Zf2 P):Y4:=let⟨_,h1,h2⟩:=h;h1.yJ h2
section
variable {P:Program}{w:World}{K:PySem.W.Frag}{mg:Zy}{base:Heap}{A:Ad}
theorem ajc{f:Addr}{fd:FuncData}(T:Zm)(MS:Zv "lines_of" GG 2 Q9)(My:Zv "wrong_kind" Gf 4 (QH A))(MD:Zv "tell" Gk 2 (QM A))(F:Zo "tell_text" "tell_text" Ja f fd):YV 5 f fd Gj (QL A):=by
 have nd:=RS.nd;refine F.ok RS Zk Zn
 ·obtain⟨p,a,i,t,rfl,_⟩:=h;rfl
 ·obtain⟨p,a,i,t,rfl,hW,ha,ht,k1,k2⟩:=h;ext c;refine⟨_,(ao (dN dF rfl (aim K rfl T.tS (aa (az MS hr rfl (Xl ai)) ai)) Zck (ak (bg (Z5 ZH Z2) (ao (Zcg (az My hr rfl (ZL X4)))
   (ao (bg (bN pD Yh aR ZO) (ak (ay (cR n0 (cR aiS aR ZR) Yh))) bp)
   (ak (dU (az MD hr rfl (aa (pv 0) (aa (pv 3) ai))))))) bp)))
   (ak (ay aR))),?_⟩
  ext a;refine⟨a,t,rfl,(dQ ha).1,ht,λH1 l1 s1 xV am4=>?_⟩;obtain⟨rs,cX,dv,jA⟩:=am4;have anc:l1∉i.aH:=hW.dO.n8 xV;have Lx:∀r∈rs,r∉i.aH:=λr hr=>hW.dO.n8 (jA r hr);have kJ:cut H1 i.aH l1=some WQ:=d_ cX anc;have Tj:=iy s1 hW.dO;obtain⟨Pv,aB⟩:∃Pv:Nat->L2.St->Hp->Prop,∀m σ H',YK H'↔∃(P:Plan) (v2 v3 v4:ZM),σ=[some Z7,some ZY,v2,v3,v4]/\ah (cut H1 i.aH) ZiT/\Zjl P/\ZG/\Vbwbal.read t=Zjz XG ((Xh t).drop m):=Yg;refine⟨l1,rfl,_,ag.of cX,aox W9 Pv ((Zi _).mpr ⟨_,none,none,none,rfl,ZW,hW.same s1,agt,rfl⟩) (λj σ H' _ hv=>?_) ?_ ?_⟩
  ·obtain⟨P,v2,v3,v4,_,sc,_,_,_⟩:=(Zi _).mp hv;exact ag.of (dQ (sc.at kJ)).1
  ·intro m x Tp σ H2 hx hv hTp;ext cx;obtain⟨ra,iF,rfl⟩:=UD;obtain⟨sy,aml,eS⟩:=gN dv iF;obtain⟨tY,LP,Bv⟩:=get_map aml;have hcr:cut H1 i.aH ra=some (.lst (sy.map aE)):=d_ eS (Lx ra (bI iF));have s3:Xx (YD Tp ZsL):=Za7;have Dd:=sc.trans (iy s3 uH.dO);have A_:(Xh t).drop m=tY::(Xh t).drop XG:=by obtain⟨h1,h2⟩:=iQ.mp LP;rw[afK h1,h2]
   rw[A_]at iE;have Fc:=bI LP;ext r;ext a;obtain⟨H3,uM⟩:∃H3,H3=YD Tp ZsL:=Zs;rw[←uM]at s3 Dd⊢;have anz:=Dd.at hcr;have jY:=(dQ anz).1;by_cases aK:wordsOf tY=[]
   ·have eG:sy=[]:=by rw[Bv,aK];rfl
    refine⟨false,.inl ⟨sy.map aE,ag.of jY,by rw[eG];rfl⟩,aF ((Zi _).mpr ⟨P,_,_,_,rfl,Dd,uH.same s3,wf,?_⟩)⟩;rw[iE,TN (q:=P) (by rw[aK];rfl)]
   ·obtain⟨xj,Eg⟩:=agf ht Fc aK;rw[←Bv]at Eg;have hnw:sy≠[]:=Eg.ne;refine⟨true,.inl ⟨sy.map aE,ag.of jY,by cases hq:sy with |nil=>exact absurd hq hnw|cons a r=>rfl⟩,aI ?_⟩;have i8:=uH.same s3;refine⟨p,ra,i,P,sy,rfl,i8.yJ,wf,jY,Eg,λH4 rb s4 ij=>Yy⟩;have lC:=i8.same s4;have sY:=Dd.trans (iy s4 i8.dO);rw[Bv]at ij⊢;by_cases hk:iC P Zex rb=0
    ·rw[hk];have hl:=alr wf xj ij hk;have pO:=agN hk;refine aF ⟨p,ra,i,P,_,rfl,lC,wf,by rw[←Bv];exact sY.at hcr,by rw[←Bv];exact Eg,pO,λH5 sc5 hW5=>(Zi _).mpr ⟨_,_,_,_,rfl,sY.trans sc5,hW5,ags wf pO,?_⟩⟩;rw[iE,TN hl]
    ·have hl:=als wf xj ij hk;have LM:m<4001:=by have h1:=lh LP;have h2:=(CV 10 t).1;omega
     rw[bu (show(0 :Int)<((iC P Zex rb:Nat):Int) by omega)];refine aI ⟨.inl ⟨Zj,Zj⟩,_,rfl,?_⟩;have:=k2 XG (iC P Zex rb) (by rw[iE,ahV hl]) H4 (Tj.trans sY) (Nat.succ_pos m);have e:V.int (100*((m+1 :Nat):Int)+((iC P Zex rb:Nat):Int))=nat (100*(m+1)+iC P Zex rb):=by unfold nat;congr 1
     rw[e];ext d
  ·intro σ H2 hv;ext cx;have e1:(rs.map V.ref).length =(Xh t).length :=by rw[aq,du dv];exact X0
   rw[e1,Hg]at iE;ext a;exact k1 P iE H2 (Tj.trans sc) uH wf
end
end
section
open Vbwbal (within bytesOk choiceOf does isStep isPerson)
abbrev atb:Zc:=["calls","place","number","behind","numbers","end"]
theorem S0:aV atb GS (aA JL):=Zl
abbrev ae8:Zc:=["numbers","longest","number"]
theorem Sy:aV ae8 BY (aA Ds):=Zl
abbrev asZ:Zc:=["record","number"]
theorem Sz:aV asZ yW (aA Jz):=Zl
abbrev as1:Zc:=["record","number"]
theorem SD:aV as1 vh (aA JB):=Zl
abbrev Cl:=Vbwbal.Call
def cN:Cl->Nat
 | .load _=>0
 | .shown =>1
 | .sign _ _=>2
 | .absent _ _=>3
 | .plan =>4
 | .core =>5
 | .needed =>6
 | .who _=>7
 | .amend _ _ _=>8
 | .view _=>9
 | .history _=>10
 | .may _ _=>11
 | .released =>12
 | .ways =>13
 | .names =>14
def cL:Cl->List Int
 | .sign s x=>[s,x]
 | .absent x k=>[x,k]
 | .who s=>[s]
 | .amend e x _=>[e,x]
 | .view k=>[k]
 | .history e=>[e]
 | .may s x=>[s,x]
 |_=>[]
def cT:Cl->List Int
 | .load t=>t
 | .amend _ _ t=>t
 |_=>[]
structure qw(A:Ad)(H:Hp)(c:Addr)(k:Cl):Prop where
 ex:∃dx nl tl pl,H c=some (ZfD dx (qh (nat (cN k)) (.ref nl) (.ref tl) pl))/\H nl=some (.lst (iv (cL k)))/\H tl=some (.lst (iv (cT k)))
 len:(cT k).length <=5000
theorem qw.same{A:Ad}{H H':Hp}{c:Addr}{k:Cl}(s:Zd)(h:qw A H c k):qw A H' c k:=by obtain⟨dx,nl,tl,pl,h1,h2,h3⟩:=h.ex;exact⟨⟨dx,nl,tl,pl,UZ,s.at h2,s.at h3⟩,h.len⟩
def Iz:Sp:=λvs H Q _=>∃(a:Addr) (xs:ZK) (m:Nat),vs=[.ref a,nat m]/\H a=some (.lst (iv xs))/\xs.length<=5000/\∀H',Zd->Q (.bl (bytesOk xs m)) H'
def C3(A:Ad):Sp:=λvs H Q _=>∃(r:Addr) (i:bC) (j:aW) (P:Plan) (ab:Za) (c:Choice) (z:Int),vs=[.ref r,.int z]/\YM/\Q (.bl (ZaB (Int.ofNat P.steps.length-1))) H
def zI(A:Ad):Sp:=λvs H Q _=>∃(r:Addr) (i:bC) (j:aW) (P:Plan) (ab:Za) (c:Choice) (z:Int),vs=[.ref r,.int z]/\YM/\Q (.bl (ZaB (Int.ofNat P.persons.length-1))) H
def Rn(A:Ad)(K:PySem.W.Frag):Sp:=λvs H Q _=>∃(a:Addr) (p:Nat) (l:ZK) (c:Uw) (t:ZK) (m n:Nat) (nums txt:ZK) (places:Nat),vs=[.ref a,nat p]/\Y2 a VY/\l.length<=16000/\Ho (l.drop p) c t m n nums txt places/\
 ∀(H':Hp) (q dx nl tl:Addr),Zd->H q=none->H' q=some Zoz->H' nl=some Zmv->H' tl=some (.lst (iv txt))->H nl=none->H tl=none->Q XO H'
theorem sE(z:Int)(n:Nat):ZaB (Int.ofNat n-1)=(decide (0<=z)&&decide (z<(n:Int))):=by unfold Vbwbal.within;congr 1;exact rZ.mpr ⟨λh=>by have:z<=(n:Int)-1:=h;omega,λh=>by show z<=(n:Int)-1;omega⟩
theorem adV(xs:Ze)(a b:Nat)(h:b<=xs.length):ja xs Zir (some (b:Int))=(xs.drop a).take (b-a):=by
 unfold ja;rw[HT.DO,HT.DO];by_cases ha:a<=xs.length
 ·rw[OV ha,OV h]
 ·rw[Nat.min_eq_right (show xs.length<=a by omega),OV h,show b-xs.length=0 by omega,show b-a=0 by omega,afo,afo]
theorem alU{c1 c2:Bool}{X Y:Prop}(h:c1=false∨c2=false)(y:Y):if c1=true then(if c2=true then X else Y)else Y:=by
 cases c1 with
 |false=>exact aF y
 |true=>
  ext e;rw[h.resolve_left Zf];exact aF y
section
variable {P:Program}{w:World}{K:PySem.W.Frag}{mg:Zy}{base:Heap}{A:Ad}
theorem ajS{f:Addr}{fd:FuncData}(T:Zm)(F:Zo "is_step" "is_step" Jz f fd):Z4 yW (C3 A):=by
 have nd:=Sz.nd;refine F.ok Sz Zk Zn
 ·obtain⟨r,i,j,P,ab,c,z,rfl,_⟩:=h;rfl
 ·ext bO;ext v;have n2:=Ui;simp! [hR.ins,T.dD,n1,lR,hR.plan.ins,T.bU,n2,kY];rw[sE]at k;cases h0:decide (0<=z)with
  |false=>
   rw[h0,gK]at k;exact aF k
  |true=>
   rw[h0,fm]at k;exact aI ⟨_,.inl ⟨_,ag.of hR.plan.steps,(aq _).symm⟩,k⟩
theorem ajU{f:Addr}{fd:FuncData}(T:Zm)(F:Zo "is_person" "is_person" JB f fd):Z4 vh (zI A):=by
 have nd:=SD.nd;refine F.ok SD Zk Zn
 ·obtain⟨r,i,j,P,ab,c,z,rfl,_⟩:=h;rfl
 ·ext bO;ext aL;rw[sE]at k;cases h0:decide (0<=z)with
  |false=>
   rw[h0,gK]at k;exact aF k
  |true=>
   rw[h0,fm]at k;exact aI ⟨_,Zoi,k⟩
theorem ajR{f:Addr}{fd:FuncData}(T:Zm)(F:Zo "is_text" "is_text" Ds f fd):Z4 BY Iz:=by
 have nd:=Sy.nd;refine F.ok Sy Zk Zn
 ·obtain⟨a,xs,m,rfl,_⟩:=h;rfl
 ·obtain⟨a,xs,m,rfl,ha,hl,k⟩:=h;refine⟨_,(ak (ay (lT (eE nZ Zaj ZE ZO) (mR (Zeh (aa (dW (own:=[("number",2)]) rfl nd Zga (show cB ae8 (aA Ds) _ _ from Yi) Zbh Xe (λ_ _ _ _ _=>(D0 nZ nZ aR ZR (bE T.aom rfl)))) ai)))))),?_⟩;ext a;refine⟨_,.inl ⟨_,Xg,(oj _).symm⟩,?_⟩;unfold Vbwbal.bytesOk at k;by_cases hm:xs.length<=m
  ·rw[bu hm,fm]at k;rw[bu (show(xs.length:Int)<=(m:Int) by omega)];refine aI ⟨UB,e8 (zs:=xs) Xg (oj _) Zb Xa (λx=>.bl (ZbU 255)) (λn v z H' hv hz s1 R S bc hS=>?_) Va⟩
   ·ext o
    ext a;have hq:=bc rfl H' ZW;unfold Vbwbal.within at hq;cases h0:decide ((0 :Int)<=z)with
    |false=>
     rw[h0,gK]at hq;exact aF hq
    |true=>
     rw[h0,fm]at hq;exact aI hq
   ·ext E;refine⟨D,rfl,xs.map λx=>ZbU 255,Zcx,?_⟩;rw[mB];exact Wy
  ·rw[aX hm,gK]at k;rw[aX (show¬(xs.length:Int)<=(m:Int) by omega)];exact aF UP
theorem aki{f:Addr}{fd:FuncData}(T:Zm)(FG:Zbk "Call" A.call B9 1 (IF A))(F:Zo "call_at" "call_at" JL f fd):VM GS (Rn A K):=by
 have nd:=S0.nd;refine F.ok S0 Zk Zn
 ·obtain⟨a,p,l,c,t,m,n,nums,txt,places,rfl,_⟩:=h;rfl
 ·obtain⟨a,p,l,c,t,m,n,nums,txt,places,rfl,ha,hl,cp,k⟩:=h;ext c;refine⟨_,(ao (WM (Wk Yu ZE Z3))
   (ao (Xj (cR n0 (cR n0 ZE aR) (bj (uc K) (DY T.an5 rfl) ZR Z3)))
   (ao (Zcg (Zgm Yu (kX (cR n0 ZE aR)) (kX ZH)))
   (ao (bg (PW.pt (Ka (bN xh ZR (bE T.adf rfl) ZO) (J_ (bN xh ZR (bE T.aor rfl) ZO)))) (ak (ay (qS FG hr rfl (XY (aa Yh (aa Wa (aa (cR qW ZH ZE) ai))))))) bp)
   (ao (bq 5 nd (cR n0 (cR n0 ZH aR) (Wk Yu ZH Z3)))
   (ak (ay (qS FG hr rfl (aa (pv 2) (aa (pv 4) (aa (mQ (mK K) (pv 0) (kX (cR n0 (pv 3) aR)) (kX (pv 5))) (aa (cR qW (pv 5) (pv 1)) ai)))))))))))),?_⟩
  have h0:l[p]? =some (m:Int):=by have:=cp.head;rw[afz,G4]at this;exact this
  have hc:=cp.cnt;have g1:f_ VY (p:Int)=some (nat m):=bQ (by unfold iv;rw[cx,h0];rfl);have g2:f_ ZgK (m:Int)=some (nat n):=bQ (by have e:([0,0,2,2,0,0,0,1,2,1,1,2,0,0,0].map V.int)=NC.map nat:=rfl;rw[e,cx,hc];rfl)
  have cC:=cp.le;have kD:=cp.pos;rw[mz]at cC;ext a;refine⟨_,ha,_,g1,?_⟩;ext a;refine⟨_,T.pF H,_,g2,_,rfl,_,ha,λq1 i7=>?_⟩;have e1:(p:Int)+1=((p+1 :Nat):Int):=by omega
  have e2:(p:Int)+1+(n:Int)=((p+1+n:Nat):Int):=by omega
  have amN:nums=(l.drop (p+1)).take n:=by rw[cp.akB,zd]
  have hlen:p+1+n<=l.length:=by
   by_cases hm:m≠0/\m≠8
   ·have:=(cp.bare hm.1 hm.2).2.1;omega
   ·obtain⟨kk,_,_,_,hp,_⟩:=cp.row Zb;omega
  have aqt:ja VY (some ((p:Int)+1)) (some ((p:Int)+1+(n:Int)))=iv nums:=by rw[e2,e1,adV _ _ _ (by rw[oj];exact hlen),amN];unfold iv;rw[za,Cm,show p+1+n-(p+1)=n by omega]
  rw[aqt];obtain⟨H1,fw⟩:∃H1,H1=Zw q1 Zmv:=Zs;have s1:ZQ H1:=by rw[fw];exact a0 i7
  have amD:H1 q1=some Zmv:=by rw[fw];exact au
  rw[←fw];have fin:∀(q2:Addr) (tx:ZK),H1 q2=none->txt=tx->∀(x dx:Addr) (pl:Int),pl=(places:Int)->Zlq x=none->Zlq dx=none->dx≠x->
    IF A [V.ref x,nat m,V.ref q1,V.ref q2,V.int pl] (upd (upd Zlq dx UK) x (ZfD dx [])) (λv H2=>v=V.ba/\Q (V.ref x) H2) E0:=λq2 tx m7 ur x dx pl cC hx gE aK=>by
   subst ur cC;obtain⟨H2,fL⟩:∃H2,H2=Yo q2 (.lst (iv txt)):=Zs;rw[←fL]at hx gE⊢;have s2:Yc H2:=by rw[fL];exact a0 m7
   have s3:Xx (YD dx UK):=a0 gE;have md:YD dx UK x=none:=by rw[ax ZmP];exact hx
   refine⟨x,dx,_,_,_,_,rfl,au,rfl,?_⟩;rw[jP];have s4:Xx (upd (YD dx UK) x (ZfD dx (qh (nat m) (.ref q1) (.ref q2) (nat places)))):=bV s3 hx (qY md);have cD:=YN;exact k _ x dx q1 q2 (cD.trans s4) (cD.free hx) au ((s2.trans s4).at amD) (s4.at (by rw[fL];exact au)) i7 (s1.free m7)
  by_cases hm:m≠0/\m≠8
  ·obtain⟨b1,b2,b3⟩:=cp.bare hm.1 hm.2;rw[aX (show¬(m:Int)=0 by omega),aX (show¬(m:Int)=8 by omega)];refine aI (aI ⟨ZI,λq2 m7 x dx hx gE aK=>?_⟩);exact fin q2 [] m7 b1 x dx _ Zb hx gE aK
  ·obtain⟨kk,r1,r2,r3,r4,r5⟩:=cp.row Zb;refine alU (by
    by_cases h:m=0
    ·left;rw[bu (show(m:Int)=0 by omega)];rfl
    ·right;rw[bu (show(m:Int)=8 by omega)];rfl) ?_
   have j6:=s1.seq ha;rw[afz]at r1;have g3:f_ VY ((p:Int)+1+(n:Int))=some (nat kk):=by rw[e2];refine bQ ?_;unfold iv;rw[cx,show p+1+n=p+(1+n) by omega,r1];rfl
   refine⟨_,j6,_,g3,_,rfl,_,j6,λq2 m7 x dx=>?_⟩;have ur:txt=(l.drop (p+1+n+1)).take kk:=by rw[r2,zd,show p+(1+n+1)=p+1+n+1 by omega]
   have aqs:ja VY (some ((p:Int)+1+(n:Int)+1)) (some ((p:Int)+1+(n:Int)+1+(kk:Int)))=iv txt:=by rw[show(p:Int)+1+(n:Int)+1+(kk:Int)=((p+1+n+1+kk:Nat):Int) by omega,show(p:Int)+1+(n:Int)+1=((p+1+n+1 :Nat):Int) by omega,adV _ _ _ (by rw[oj];omega),ur];unfold iv;rw[za,Cm,show p+1+n+1+kk-(p+1+n+1)=kk by omega]
   rw[aqs];intro hx gE aK;exact fin q2 txt m7 rfl x dx _ Zb hx gE aK
end
end
section
open Vbwbal (within bytesOk choiceOf does isStep isPerson signer load goesWith fits unsigned canEnd completion barred isSign amendments entryTold countWays withRecord)
abbrev asF:Zc:=["record","call"]
theorem RZ:aV asF OF (aA Jg):=Zl
abbrev as6:Zc:=["record","call"]
theorem SR:aV as6 OO (aA JG):=Zl
abbrev asU:Zc:=["record","call"]
theorem Sq:aV asU OJ (aA Jv):=Zl
abbrev asI:Zc:=["record","call"]
theorem R7:aV asI OH (aA Jj):=Zl
abbrev asu:Zc:=["record","call"]
theorem RL:aV asu OC (aA IW):=Zl
def iU(A:Ad)(n:Nat):Sp:=λvs H Q _=>∃(r c:Addr) (i:bC) (j:aW) (R:Rc) (k:Cl),vs=[.ref r,.ref c]/\Xn/\eJ R/\qw A YX c k/\cN k=n/\
 ∀(H':Hp) (l:Addr) (R':Rc) (c7:ZK),YC k=(some R',c7)->Zai->ZbO j R'->eJ R'->H' l=some Ze5->c7.length<=100001->Z0 H'
theorem pE{A:Ad}{H H':Hp}{r l:Addr}{i:bC}{j:aW}{R:Rc}{k:Cl}{c7:ZK}{Q:VK}(hR:Xn)(wr:eJ R)
  (q:ZjC)
  (hd:YC k=(some R,c7)) (s:Zd) (hl:H' l=some Ze5) (hn:c7.length<=100001):Z0 H':=
 q H' l R c7 hd (iy s hR.dO) (hR.same s) wr hl hn
theorem fu{A:Ad}{H H':Hp}{r:Addr}{i:bC}{j:aW}{R:Rc}{k:Cl}{z:Int}{Q:VK}(hR:Xn)(wr:eJ R)
  (q:ZjC)
  (hd:YC k=(some R,[z])) (s:Zd):1<=sizeLine/\∀p,H' p=none->Zki:=
 ⟨Zh9,λp hp=>ZeZ (s.trans WE) au (by show 1<=100001;decide)⟩
theorem Av(b:Za):nats (ln b)=iv (Vbwbal.listed b):=by rw[EH];rfl
theorem Aw(b:Za):(Vbwbal.listed b).length =b.length+1:=by unfold Vbwbal.listed Vbwbal.ints;rw[bb,aq]
theorem alV{k:Cl}(h:cN k=7):∃s,k=.who s:=by cases k<;>first |exact⟨_,rfl⟩|cases h
theorem alW{k:Cl}(h:cN k=9):∃s,k=.view s:=by cases k<;>first |exact⟨_,rfl⟩|cases h
theorem alZ{k:Cl}(h:cN k=10):∃s,k=.history s:=by cases k<;>first |exact⟨_,rfl⟩|cases h
theorem alY{k:Cl}(h:cN k=11):∃s x,k=.may s x:=by cases k<;>first |exact⟨_,_,rfl⟩|cases h
theorem alX{k:Cl}(h:cN k=2):∃s x,k=.sign s x:=by cases k<;>first |exact⟨_,_,rfl⟩|cases h
theorem al1{k:Cl}(h:cN k=3):∃s x,k=.absent s x:=by cases k<;>first |exact⟨_,_,rfl⟩|cases h
theorem al0{k:Cl}(h:cN k=8):∃e x t,k=Zb6 x t:=by cases k<;>first |exact⟨_,_,_,rfl⟩|cases h
section
variable {P:Program}{w:World}{K:PySem.W.Frag}{mg:Zy}{base:Heap}{A:Ad}
theorem ajj{f:Addr}{fd:FuncData}(T:Zm)(dZ:Ub)(MG:Zv "shown_text" Gp 3 (QP A))(F:Zo "shown" "shown" Jg f fd):Xp OF (iU A 1):=by
 have nd:=RZ.nd;refine F.ok RZ Zk Zn
 ·ext n
 ·ext l;obtain rfl:k=.shown :=by cases k<;>first |rfl|cases hk
  ext p;ext v;refine⟨_,(ak (ay (az dZ hr rfl (aa (az MG hr rfl (Vr ai)) ai)))),?_⟩;simp! [cZ.ins,T.dD,n1,lR];refine⟨i.p,j,R.plan,rfl,cZ.plan,wr.wf,λH1 l1 s1 _ cX hlen=>o4 cX Zb λH2 l2 s2 _ bH=>?_⟩;exact pE hR wr q rfl (s1.trans s2) (by rw[bH,Av]) (by rw[Aw];omega)
theorem aj9{f:Addr}{fd:FuncData}(T:Zm)(dZ:Ub)(mi:ZgU)(MY:Zv "core_steps" GN 14 (Ri A))(F:Zo "core" "core" JG f fd):Xp OO (iU A 5):=by
 have nd:=SR.nd;refine F.ok SR Zk Zn
 ·ext n
 ·ext l;obtain rfl:k=.core :=by cases k<;>first |rfl|cases hk
  ext p;refine⟨_,(ao (bg ZqI Zj3 bp)
   (ak (ay (az dZ hr rfl (aa (az MY hr rfl (aa (pv 0) ai)) ai))))),?_⟩
  ext a;refine ZoG;have aK:∀y,y∈R.plan.unlike∨y∈R.plan.alike->y.1≠y.2:=λy hy=>wr.wf.ne y (hy.elim (λz=>Zna) λz=>Znb);cases he:canEnd R.plan R.absent ZF with
  |true=>
   refine aI (Y9 ?_ s1);show(some R,match Vbwbal.core R.plan R.absent ZF with |none=>[-4]|some l=>Ze2)=_;rw[aqB aK wr.wc.room he]
  |false=>
   obtain⟨l,hl⟩:=aqA he;have hd:YC .core =(some R,Ze2):=by show(some R,match Vbwbal.core R.plan R.absent ZF with |none=>[-4]|some l=>Ze2)=_;rw[hl]
   have rK:l.length<=7:=by have h1:=(zH (G8 hl)).2;have h2:=Es R.plan ZF;have h3:=wr.wf.steps;omega
   ext bB
theorem ajK{f:Addr}{fd:FuncData}(T:Zm)(dZ:Ub)(fA:Zac)(MQ:Zv "needed_persons" GD 14 (Q7 A))(F:Zo "needed" "needed" Jv f fd):Xp OJ (iU A 6):=by
 have nd:=Sq.nd;refine F.ok Sq Zk Zn
 ·ext n
 ·ext l;obtain rfl:k=.needed :=by cases k<;>first |rfl|cases hk
  ext p;refine⟨_,(ao (bg (eR (Z5 Zbf Z2)) Zj3 bp)
   (ak (ay (az dZ hr rfl (aa (az MQ hr rfl (aa (pv 0) ai)) ai))))),?_⟩
  ext a;refine Zoe;have bt:YC .needed =(some R,match Vbwbal.needed R.plan R.absent ZF with |none=>[-4]|some l=>Ze2):=rfl;by_cases he:Wm ZF=[]
  ·rw[he];refine aI (Y9 ?_ s1);rw[bt,akP he]
  ·have:(nats Zf9).isEmpty =false:=by
    cases hq:Wm ZF with
    |nil=>exact absurd hq he
    |cons a b=>rfl
   rw[this];obtain⟨l,hl⟩:=akO (ab:=R.absent) he;have hd:YC .needed =(some R,Ze2):=by rw[bt,hl]
   have rK:l.length<=7:=by have h1:=(zH (G8 hl)).2;have h2:=eZ (λx=>!(R.absent.contains x)) Zqv;rw[eM]at h2;have h3:=wr.wf.persons;omega
   ext bB
theorem ajp{f:Addr}{fd:FuncData}(T:Zm)(fA:Zac)(F:Zo "released" "released" Jj f fd):Xp OH (iU A 12):=by
 have nd:=R7.nd;refine F.ok R7 Zk Zn
 ·ext n
 ·ext l;obtain rfl:k=.released :=by cases k<;>first |rfl|cases hk
  ext p;refine⟨_,(ak (ay (bh (aa (w8 (Z5 Zbf Z2) aR aR) ai)))),?_⟩;ext a;refine Zoe;have bt:YC .released =(some R,[if(Wm ZF).isEmpty =true then 1 else 0]):=rfl;have anu:(nats Zf9).isEmpty =(Wm ZF).isEmpty :=by cases unsigned R.plan ZF<;>rfl
  rw[anu];cases he:(Wm ZF).isEmpty with
  |true=>exact aF ZrZ
  |false=>exact aI ZrZ
theorem ai5{f:Addr}{fd:FuncData}(T:Zm)(fA:Zac)(MX:Zv "count_ways" GL 5 (Rh A))(F:Zo "ways" "ways" IW f fd):Xp OC (iU A 13):=by
 have nd:=RL.nd;refine F.ok RL Zk Zn
 ·ext n
 ·ext l;obtain rfl:k=.ways :=by cases k<;>first |rfl|cases hk
  ext p;refine⟨_,(ao (bg (bN pD (Xd (aa Zbf ai)) (bE T.aoe rfl) ZO) (ak (ay (bh (aa (bE T.an1 rfl) ai)))) bp)
   (ak (ay (bh (aa (az MX hr rfl (aa (pv 0) ai)) ai))))),?_⟩
  ext a;refine⟨r,i,j,R.plan,R.absent,ZF,rfl,cZ,wr.wf,λH1 u1 s1 _ AL=>⟨_,.inl ⟨_,ag.of AL,(bA _).symm⟩,?_⟩⟩;have bt:YC .ways =if 6<(Wm ZF).length then(some R,[-7])else(some R,[Int.ofNat (countWays R.plan R.absent Zf9 ZF)]):=rfl
  by_cases he:6<(Wm ZF).length
  ·rw[bu (show(6 :Int)<((Wm ZF).length :Int) by omega)];exact aI (Y9 (by rw[bt,af he]) s1)
  ·rw[aX (show¬(6 :Int)<((Wm ZF).length :Int) by omega)];refine aF ⟨r,i,j,R.plan,R.absent,ZF,rfl,Zjv,wr.wf,wr.wc,λH2 s2=>?_⟩;exact Y9 (by rw[bt,ae he];rfl) YN
end
end
section
open Vbwbal (within bytesOk choiceOf does isStep isPerson signer load goesWith fits unsigned canEnd completion barred isSign amendments entryTold countWays withRecord)
abbrev asM:Zc:=["record","call","steps","answer","step","person"]
theorem Sb:aV asM OI (aA Jn):=Zl
abbrev ass:Zc:=["record","call","step"]
theorem RK:aV ass OB (aA IV):=Zl
abbrev asw:Zc:=["record","call","count"]
theorem RN:aV asw OD (aA IY):=Zl
abbrev as2:Zc:=["record","call","number"]
theorem SG:aV as2 ON (aA JC):=Zl
abbrev asW:Zc:=["record","call","step","person"]
theorem Su:aV asW OM (aA Jx):=Zl
abbrev asV:Zc:=["record","call"]
theorem Sr:aV asV OL (aA Jw):=Zl
theorem akV(R:Rc):YC .names =(some R,(tQ R.plan++ln R.absent).map Int.ofNat):=by unfold tQ;simp only[oS,eC,cw,cA,O6];rfl
theorem avz{a b:Bool}:((!a)=true∨(!b)=true)↔(a=false∨b=false):=by cases a<;>cases b<;>simp
section
variable {P:Program}{w:World}{K:PySem.W.Frag}{mg:Zy}{base:Heap}{A:Ad}
theorem ai4{f:Addr}{fd:FuncData}(T:Zm)(dZ:Ub)(p_:ZkO)(MV:Zv "free_signers" GJ 16 (Rb A))(F:Zo "who" "who" IV f fd):Xp OB (iU A 7):=by
 have nd:=RK.nd;refine F.ok RK Zk Zn
 ·ext n
 ·ext l;obtain⟨z,rfl⟩:=alV hk;ext p;ext I;refine⟨_,(ao ZbX
   (ao (bg ZpL U9 bp)
   (ak (ay (az dZ hr rfl (aa (az MV hr rfl (aa (pv 0) (aa (pv 2) ai))) ai)))))),?_⟩
  ext aF;refine⟨_,UW,_,bQ (j:=0) rfl,r,i,j,R.plan,R.absent,ZF,z,rfl,cZ,_,rfl,?_⟩;have bt:YC (.who z)=if isStep R z=false then(some R,[-1])else(some R,Zou):=rfl
  ext be;cases he:ZaB ZgG with
  |false=>exact aI (Y9 (by rw[bt,aT,he];rfl) ZW)
  |true=>
   have hd:YC (.who z)=(some R,Zou):=by rw[bt,aT,he];rfl
   rw[sE,aQ,bX,bX]at he;have ez:V.int z=nat z.toNat:=by unfold nat;rw[mC he.1]
   rw[ez];have rK:((List.range R.plan.persons.length).filter λx=>Zd6 x==0).length <=7:=by have h2:=eZ (λx=>Zd6 x==0) Zqv;rw[eM]at h2;have h3:=wr.wf.persons;omega
   refine aF ⟨r,i,j,R.plan,R.absent,ZF,z.toNat,rfl,cZ,wr.wf,wr.wc,Zb,λH1 l1 s1 _ cX=>o4 cX Zb λH2 l2 s2 _ bH=>?_⟩;exact ZpR
theorem ajY{f:Addr}{fd:FuncData}(T:Zm)(dZ:Ub)(yt:ZrH)(M6:Zv "amendments_of" GX 2 (Rq A))(F:Zo "history" "history" JC f fd):Xp ON (iU A 10):=by
 have nd:=SG.nd;refine F.ok SG Zk Zn
 ·ext n
 ·ext l;obtain⟨z,rfl⟩:=alZ hk;ext I;refine⟨_,(ao ZbX
   (ao (bg ZpM U9 bp)
   (ak (ay (az dZ hr rfl (aa (az M6 hr rfl (aa (pv 0) (aa (pv 2) ai))) ai)))))),?_⟩
  ext aF;refine⟨_,UW,_,bQ (j:=0) rfl,r,i,j,R,z,rfl,hR,wr,_,rfl,?_⟩;have bt:YC (.history z)=if z<0∨Zbt z.toNat=false then(some R,[-1])else(some R,Zsy):=rfl
  cases he:(decide (0<=z)&&Zbt z.toNat)with
  |false=>
   refine Zid;rw[bt,af];rw[zi,adO]at he;exact he.imp (λh=>Zb) id
  |true=>
   rw[aQ,bX]at he;have hd:YC (.history z)=(some R,Zsy):=by
    rw[bt,ae];rintro(h|h)
    ·omega
    ·rw[he.2]at h;cases h
   have ez:V.int z=nat z.toNat:=by unfold nat;rw[mC he.1]
   rw[ez];have rK:(Zkv z.toNat).length <=47:=by unfold Vbwbal.amendments;refine WN ?_;rw[eM];exact wr.len
   refine aF ⟨r,i,j,R,z.toNat,rfl,hR,wr,λH1 l1 s1 _ cX=>o4 cX Zb λH2 l2 s2 _ bH=>?_⟩;exact ZpR
theorem ajN{f:Addr}{fd:FuncData}(T:Zm)(p_:ZkO)(mh:Zg5)(qb:ZkN)(F:Zo "may" "may" Jx f fd):Xp OM (iU A 11):=by
 have nd:=Su.nd;refine F.ok Su Zk Zn
 ·ext n
 ·ext l;obtain⟨z,x,rfl⟩:=alY hk;ext p;ext I;refine⟨_,(ao ZbX
   (ao (Xj Zd2)
   (ao Zn7
   (ak (ay (bh (aa (az qb hr rfl (aa (pv 0) (aa (pv 2) (aa (pv 3) ai)))) ai))))))),?_⟩
  ext bH;have bt:YC (.may z x)=if isStep R z=false∨Zjx x=false then(some R,[-1])else(some R,[Int.ofNat ZnI]):=rfl
  ext be;ext ab;rw[aT,da]at bt;cases he:ZaB ZgG with
  |false=>exact Zqj
  |true=>
   refine ZjP;cases hf:ZbU Zd5 with
   |false=>exact Zqk
   |true=>
    have hd:YC (.may z x)=(some R,[Int.ofNat ZnI]):=by
     rw[bt,ae];rintro(h|h)
     ·rw[he]at h;cases h
     ·rw[hf]at h;cases h
    rw[sE,aQ,bX,bX]at he hf;have e1:V.int z=nat z.toNat:=by unfold nat;rw[mC he.1]
    have e2:V.int x=nat x.toNat:=by unfold nat;rw[mC hf.1]
    rw[e1,e2];refine aF ⟨r,i,j,R.plan,R.absent,ZF,z.toNat,x.toNat,rfl,cZ,wr.wf,wr.wc,Zb,Zb,λH1 s1=>?_⟩;exact Y9 hd s1
theorem ai7{f:Addr}{fd:FuncData}(T:Zm)(MA:Zv "viewed" Gh 3 (QJ A))(F:Zo "view" "view" IY f fd):Xp OD (iU A 9):=by
 have nd:=RN.nd;refine F.ok RN Zk Zn
 ·ext n
 ·ext l;obtain⟨z,rfl⟩:=alW hk;ext p;ext I;have n2:=Ue;ext y;have cE:zs.length=R.entries.length:=by rw[←ez,aq]
  refine⟨_,(ao ZbX
   (ao (bg (eR (Kd nZ nZ aR ZR (Xd Zct))) U9 bp)
   (ak (ay (cR k0 (bh (aa (pv 2) ai)) (az MA hr rfl (aa (pv 0) (aa (pv 2) ai)))))))),?_⟩
  simp! [c1,T.lG,n1,u6,cZ.ins,T.dD,n2,pk];refine⟨_,UW,_,bQ (j:=0) rfl,?_⟩;ext a;have bt:YC (.view z)=if within z 0 ZrD=false then(some R,[-1])else(some R,Int.ofNat z.toNat::(List.range z.toNat).flatMap ZnJ):=rfl
  by_cases h0:0<=z
  ·rw[bu h0];refine ZpY;rw[fT,cE];by_cases h1:z<=(R.entries.length:Int)
   ·rw[bu h1];refine aF ⟨Zh9,λp hp=>?_⟩;have hw:ZaB ZrD=true:=by unfold Vbwbal.within;rw[bu h0,bu (show z<=Int.ofNat R.entries.length from h1)];rfl
    have hd:YC (.view z)=(some R,Int.ofNat z.toNat::(List.range z.toNat).flatMap ZnJ):=by rw[bt,hw];rfl
    have e1:V.int z=nat z.toNat:=by unfold nat;rw[mC h0]
    rw[e1];have s1:ZQ (Zw p (.lst [nat z.toNat])):=WE;refine⟨r,i,j,R,z.toNat,rfl,XB,wr,Zb,λH2 l2 s2 _ bH rK=>⟨l2,rfl,_,s2.at au,_,bH,?_,λl3 b0=>?_⟩⟩
    ·rw[oj,sz];show 1+_<=_;omega
    ·have s3:Xx (YD l3 (.lst ([nat z.toNat]++iv ((List.range z.toNat).flatMap ZnJ)))):=a0 b0;refine ZeZ ZgQ (by rw[au];rfl) ?_;rw[bb];omega
   ·rw[aX h1];refine Zid;rw[bt,af];unfold Vbwbal.within;rw[aX (show¬z<=Int.ofNat R.entries.length from h1),Hr]
  ·rw[aX h0];refine aF Zid;rw[bt,af];unfold Vbwbal.within;rw[aX h0,gK]
theorem ajw{f:Addr}{fd:FuncData}(T:Zm)(mi:ZgU)(fA:Zac)(MW:Zv "first_way" GK 14 (Rf A))(F:Zo "plan_end" "plan_end" Jn f fd):Xp OI (iU A 4):=by
 have nd:=Sb.nd;refine F.ok Sb Zk Zn
 ·ext n
 ·ext l;obtain rfl:k=.plan :=by cases k<;>first |rfl|cases hk
  ext p;ext c;refine⟨_,(ao (bg (eR ZqI) Zj3 bp)
   (ao (WM Zbf)
   (ao (Xj (bh (aa (Xd Y7) ai)))
   (ao (dN dF rfl (Ah K rfl T.tR (XY (aa (az MW hr rfl (ZL ai)) ai))) (i4 2 K rfl (dn WT (dn (aZ 5 nd) iZ))) (ak (dU (Uj ZH (aa (bh (aa Yh (aa W3 ai))) ai)))))
   (ak (ay (pv 3))))))),?_⟩
  ext a;refine ZoG;have bt:YC .plan =(some R,match completion R.plan R.absent ZF with |none=>[-4]|some c=>Vbwbal.choiceTold (c.drop (choiceOf R).length)):=rfl;have gG:canEnd R.plan R.absent ZF=(ZsX ZF).isSome :=rfl;rw[gG];cases hcp:ZsX ZF with
  |none=>exact aI (Y9 (by rw[bt,hcp]) s1)
  |some c'=>
   refine aF ⟨r,i,j,R.plan,R.absent,ZF,rfl,Zjv,wr.wf,λH2 u2 s2 _ pN=>?_⟩;have hul:(Wm ZF).length <=7:=cq (Es _ _) wr.wf.steps;have cD:=YN;refine⟨_,.inl ⟨_,ag.of pN,(bA _).symm⟩,X2,λl hl=>?_⟩;have s3:Xx (YD l Zrs):=a0 hl;have cG:=Zde;refine⟨r,i,j,R.plan,R.absent,ZF,c',rfl,cZ.same cG,wr.wf,wr.wc,hcp,λH4 l4 s4 ox hw=>?_⟩;obtain⟨wy,gQ,hw2,ik⟩:=hw;ext aH;have jR:=ZfC;have me:wy.length=(Wm ZF).length :=by rw[←hw2,aq]
   have hlH:H l=none:=cD.free hl;have hd:YC .plan =(some R,Vbwbal.choiceTold wy):=by rw[bt,hcp,gQ];show(some R,Vbwbal.choiceTold ((choiceOf R++wy).drop (choiceOf R).length))=_;rw[List.drop_left]
   obtain⟨Pv,aB⟩:∃Pv:Nat->L2.St->Hp->Prop,∀m σ H',YK H'↔∃(v4 v5:ZM),σ=[some Yr,some Zb2,some (.ref u2),some Z6,v4,v5]/\Zd/\H' u2=some (.lst (nats Zf9))/\H' l4=some (.lst (nats (wy.map ZZ)))/\H' l=some (.lst (nats (wy.length::(wy.take m).flatMap λx=>[x.1,x.2]))):=Yg;have hu4:=jR.at pN;have anb:H4 l=some Zrs:=s4.at au;refine⟨u2,rfl,l4,rfl,_,ag.of hu4,_,ag.of ik,Bq (nats Zf9) (nats (wy.map ZZ)) (by rw[bA,bA,aq,me]) Pv ((Zi _).mpr ⟨none,none,rfl,jS,hu4,ik,by rw[anb,←me];rfl⟩) (λi σ H' _ hv=>let⟨_,_,_,_,e1,e2,_⟩:=(Zi _).mp hv;⟨ag.of e1,ag.of e2⟩) ?_ ?_⟩
   ·intro m x y Tp σ H5 hx hy hv hTp;ext cE;obtain⟨st,aT,rfl⟩:=UD;obtain⟨pe,da,rfl⟩:=Wr;obtain⟨z,hz,pK⟩:=get_map da;have fF:z.1=st:=by rw[←hw2,cx,hz]at aT;exact bY aT
    subst fF pK;have s6:ah H5 Zqe:=Za7;ext r;have fY:=s6.at jz;have rP:((wy.take m).flatMap λx=>[x.1,x.2]).length <=2*wy.length:=FL m (λx _=>aU 2);simp! [cQ fY];refine⟨X2,λp hp=>⟨_,(by rw[ax (cg fY hp)];exact fY),?_,?_⟩⟩
    ·rw[bA,bb,hsz];omega
    ·have s7:ah H5 (upd Zqe p (.lst [nat z.1,nat z.2])):=bV s6 (s6.free hp);have LN:l≠u2:=λe=>by rw[e,pN]at hl;cases hl
     have am3:l≠l4:=λe=>by rw[←e,au]at ox;cases ox
     refine(Zi _).mpr ⟨_,_,rfl,bV (s5.trans s7) hlH (gf (s7.at jz)),by rw[ax (λe=>LN e.symm)];exact s7.at hu5,by rw[ax (λe=>am3 e.symm)];exact s7.at hw5,?_⟩;rw[au,FK (f:=λx:Nat×Nat=>[x.1,x.2]) hz,←oS,lg];rfl
   ·intro σ H5 hv;ext cE;rw[bA,←me,eg]at jz;ext a;have rP:(wy.flatMap λx=>[x.1,x.2]).length <=2*wy.length:=Nq (λx _=>aU 2);have et:Vbwbal.choiceTold wy=(wy.length::wy.flatMap λx=>[x.1,x.2]).map Int.ofNat:=by rw[cw,O6];rfl
    refine ZeZ s5 (by rw[jz,EH,et]) ?_;rw[et,aq,bb];omega
theorem ajL{f:Addr}{fd:FuncData}(T:Zm)(MH:Zv "shown_names" Gq 2 (QQ A))(dZ:Ub)(M9:Zv "absent_persons" G0 1 (Ru A))(F:Zo "names" "names" Jw f fd):Xp OL (iU A 14):=by
 have nd:=Sr.nd;refine F.ok Sr Zk Zn
 ·ext n
 ·ext l;obtain rfl:k=.names :=by cases k<;>first |rfl|cases hk
  ext p;ext c;ext v;refine⟨_,(ak (ay (cR k0 (az MH hr rfl (Vr ai)) (az dZ hr rfl (aa (az M9 hr rfl (ZL ai)) ai))))),?_⟩;simp! [cZ.ins,T.dD,n1,lR];refine⟨i.p,j,R.plan,rfl,cZ.plan,wr.wf,λH1 l1 s1 _ cX kG=>⟨r,i,j,R.plan,R.absent,ZF,rfl,Zjv,wr.wf,λH2 l2 s2 _ bH=>?_⟩⟩;have dc:((List.range R.plan.persons.length).filter λx=>R.absent.contains x)=R.absent:=by
   refine C8 ?_ wr.ab λx=>?_
   ·exact(O5).filter _
   ·rw[bD,dS,bx];exact⟨λh=>h.2,λh=>⟨wr.vb x h,h⟩⟩
  rw[dc]at bH;have hal:R.absent.length<=7:=by have h1:=n9 R.plan.persons.length R.absent (J9 wr.ab) wr.vb;have:=wr.wf.persons;omega
  refine o4 bH Zb λH3 l3 s3 _ b0=>⟨l1,rfl,l3,rfl,_,(s2.trans s3).at cX,_,b0,?_,λp hp=>?_⟩
  ·unfold ln;rw[bA,bA,bb];omega
  ·have s4:Wj (U6 p (.lst (nats (tQ R.plan)++nats (ln R.absent)))):=WE;refine pE hR wr q (akV R) (((s1.trans s2).trans s3).trans s4) ?_ ?_
   ·rw[au,←lg,EH]
   ·unfold ln;rw[aq,bS,bb];omega
end
end
section
open Vbwbal (within bytesOk choiceOf does isStep isPerson signer load goesWith fits unsigned canEnd completion barred isSign signerOf amendments entryTold countWays withRecord)
abbrev asD:Zc:=["record","call","step","person","bar"]
theorem RW:aV asD OE (aA Je):=Zl
abbrev asG:Zc:=["record","call","person","absent"]
theorem R3:aV asG OG (aA Jh):=Zl
abbrev atf:Zc:=["record","call","number","person"]
theorem S_:aV atf OP (aA JO):=Zl
theorem ar8{P:Plan}{ab ab':Za}{x:Nat}{b:Bool}(hx:ZhO)(h:∀y,ab'.contains y=if y=x then b else ZiD):(kO P ab).set x WB=kO P ab':=by
 unfold kO;refine List.ext_getElem? λm=>?_;by_cases e:m=x
 ·subst e;rw[Hb (by rw[aq,eM];exact hx),cx,zc hx];show _=some (V.bl (ab'.contains m));rw[h m,af rfl]
 ·rw[Co ZfO,cx,cx];cases hm:(List.range P.persons.length)[m]? with
  |none=>rfl
  |some y=>
   obtain⟨rfl,_⟩:=tw hm;show some (V.bl ZiD)=some (V.bl (ab'.contains y));rw[h y,ae e]
theorem aos{A:Ad}{H:Hp}{r:Addr}{i:bC}{j:aW}{R:Rc}{ab':Za}(h:Xn):dM A Zkc r i j {R with absent:=ab'}/\cut Zkc i.aH=cut H i.aH:=by
 have hc:cut Zkc i.aH=cut H i.aH:=uX i.amg;obtain⟨n1,n2,n3⟩:=bC.apart h.nd;obtain⟨zs,e1,e2,e3⟩:=h.entries;refine⟨⟨h.nd,by rw[hc];exact h.ins,by rw[hc];exact h.plan,au,?_,⟨zs,?_,e2,by rw[hc];exact e3⟩,HY h.tab h.absent⟩,hc⟩
 ·rw[ax (λe=>n2 e.symm)];exact h.ib
 ·rw[ax (λe=>n1 e.symm)];exact e1
theorem Ed{A:Ad}{H H':Hp}{r:Addr}{i:bC}{j:aW}{R R':Rc}{k:Cl}{z:Int}{Q:VK}(q:ZjC)
  (hd:YC k=(some R',[z])) (s:Zai) (hR:ZbO j R') (wr:eJ R'):1<=sizeLine/\∀p,H' p=none->Zki:=
 ⟨Zh9,λp hp=>q _ p R' [z] hd (s.trans (iy WE hR.dO)) (hR.same WE) wr au (by show 1<=100001;decide)⟩
theorem ame(k:Int):(if true=true then !mZ (.int k) [.int 0,.int 1]else mZ (.int k) [.int 0,.int 1])= !(within k 0 1):=by rw[af rfl];congr 1;unfold mZ Vbwbal.within;rw[ke,ke,List.any_nil,PD];show(((0 :Int)==k)||((1 :Int)==k))=_;rw[iS,h_,aQ,bX,bX,oK,oK];omega
theorem ag2(k:Int):decide (V.int k=V.int 1)=decide (k=1):=rZ.mpr ⟨λh=>V.int.inj h,λh=>by rw[h]⟩
section
variable {P:Program}{w:World}{K:PySem.W.Frag}{mg:Zy}{base:Heap}{A:Ad}
theorem ajg{f:Addr}{fd:FuncData}(T:Zm)(p_:ZkO)(mh:Zg5)(qb:ZkN)(MI:Zv "put_signature" Gs 3 (QU A))(F:Zo "sign" "sign" Je f fd):Xp OE (iU A 2):=by
 have nd:=RW.nd;refine F.ok RW Zk Zn
 ·ext n
 ·ext l;obtain⟨z,x,rfl⟩:=alX hk;ext p;ext I;refine⟨_,(ao ZbX
   (ao (Xj Zd2)
   (ao Zn7
   (ao (Zcg (az qb hr rfl (ZL (XY X4))))
   (ao (bg (bN pD Yh aR ZO) (ak (ay (bh (aa (cR qW (bE T.aoq rfl) Yh) ai)))) bp)
   (ak (ay (bh (aa (az MI hr rfl (aa (pv 0) (aa (pv 2) (aa (pv 3) ai)))) ai))))))))),?_⟩
  ext bH;have bt:YC (.sign z x)=if isStep R z=false∨Zjx x=false then(some R,[-1])else if barred R.plan R.absent ZF z.toNat x.toNat≠0 then(some R,[-10-Int.ofNat ZnI])else(some {R with entries:=R.entries++[.sign z.toNat x.toNat]},[Int.ofNat R.entries.length]):=rfl
  ext be;ext ab;rw[aT,da]at bt;cases he:ZaB ZgG with
  |false=>exact Zqj
  |true=>
   refine ZjP;cases hf:ZbU Zd5 with
   |false=>exact Zqk
   |true=>
    rw[ae (by
     rintro(h|h)
     ·rw[he]at h;cases h
     ·rw[hf]at h;cases h)]at bt
    rw[sE,aQ,bX,bX]at he hf;have e1:V.int z=nat z.toNat:=by unfold nat;rw[mC he.1]
    have e2:V.int x=nat x.toNat:=by unfold nat;rw[mC hf.1]
    rw[e1,e2];refine aF ⟨r,i,j,R.plan,R.absent,ZF,z.toNat,x.toNat,rfl,cZ,wr.wf,wr.wc,Zb,Zb,λH1 s1=>Yy⟩;by_cases hb:Zd6 x.toNat=0
    ·rw[ae (λh=>h hb)]at bt;rw[hb];refine aF ⟨r,i,j,R,z.toNat,x.toNat,rfl,XB,wr,Zb,(aep hb).1,λH2 s2 j7=>?_⟩;exact Ed q bt ((iy s1 hR.dO).trans s2) j7 (ago wr Zb Zb hb)
    ·rw[af hb]at bt;rw[bu (show(0 :Int)<((barred R.plan R.absent ZF z.toNat x.toNat:Nat):Int) by omega)];exact aI ⟨_,rfl,Y9 bt s1⟩
theorem ajl{f:Addr}{fd:FuncData}(T:Zm)(mh:Zg5)(mi:ZgU)(F:Zo "set_absent" "set_absent" Jh f fd):Xp OG (iU A 3):=by
 have nd:=R3.nd;refine F.ok R3 Zk Zn
 ·ext n
 ·ext l;obtain⟨x,kk,rfl⟩:=al1 hk;ext p;ext I;have n2:=ZcG;refine⟨_,(ao ZbX
   (ao (Xj Zd2)
   (ao (bg (PW.pt (px (eR (Z5 (az mh hr rfl (ZL Y7)) Z2)) (pq (Zgj ZH (Kk (aa aR (aa aR ai))) rfl)))) U9 bp)
   (ao (Kf (eE cS ZH aR ZO) (Ki Yp ZR set_list))
   (ak (ay (bh (aa (w8 (ck K (az mi hr rfl (aa (pv 0) ai)) (λ_=>rfl)) aR aR) ai)))))))),?_⟩
  ext aF;refine⟨_,UW,_,bQ (j:=0) rfl,_,UW,_,bQ (j:=1) rfl,r,i,j,R.plan,R.absent,ZF,x,rfl,cZ,_,rfl,?_⟩;obtain⟨ab',Mj⟩:∃ab',ab'=if kk=1 then Vbwbal.insert x.toNat R.absent else R.absent.filter λy=>y != x.toNat:=Zs
  have bt:YC (.absent x kk)=if isPerson R x=false∨within kk 0 1=false then(some R,[-1])else(some {R with absent:=ab'},[if canEnd R.plan ab' ZF=true then 1 else 0]):=by rw[Mj];rfl
  ext ab;rw[da]at bt;cases hf:ZbU Zd5 with
  |false=>exact aI (Y9 (by rw[bt,af (.inl hf)]) ZW)
  |true=>
   refine aF ⟨Zh9,λp hp=>?_⟩;have s1:ZQ (Zw p (.tup [.int 0,.int 1])):=WE;refine⟨p,_,rfl,.inr (bM.of au),rfl,rfl,_,rfl,?_⟩;rw[ame];cases hg:within kk 0 1 with
   |false=>exact aI (Y9 (by rw[bt,af (.inr hg)]) s1)
   |true=>
    rw[ae (by
     rintro(h|h)
     ·rw[hf]at h;cases h
     ·rw[hg]at h;cases h)]at bt
    rw[sE,aQ,bX,bX]at hf;have kx:x.toNat<R.plan.persons.length:=by omega
    have fK:=XB;ext cS;refine aF ⟨rfl,_,_,_,fK.fC.ins,T.dD,n2,_,z_ i,i.ab,rfl,_,_,rfl,fK.absent,x.toNat,?_,?_⟩
    ·rw[Om,ex,mD];exact EG kx
    ·rw[ag2,ar8 (ab':=ab') kx (λy=>?_)]
     ·obtain⟨j7,F1⟩:=aos (ab':=ab') fK;have PQ:eJ {R with absent:=ab'}:=by rw[Mj];exact agr wr kx kk
      refine⟨r,i,j,R.plan,ab',ZF,rfl,j7.fC,wr.wf,wr.wc,λH3 s3=>Yy⟩;have oC:=j7.same s3;have sc:ZlH:=by refine(iy s1 hR.dO).trans ?_;rw[←F1];exact iy s3 j7.dO
      cases he:canEnd R.plan ab' ZF with
      |true=>exact aI Zqu
      |false=>exact aF Zqu
     ·rw[Mj];by_cases h1:kk=1
      ·rw[af h1,contains_insert,bu h1]
      ·rw[ae h1,aqC,aX h1]
theorem aks{f:Addr}{fd:FuncData}(T:Zm)(yt:ZrH)(mh:Zg5)(yr:Zv "is_text" BY 1 Iz)(M7:Zv "amendment_count" GY 1 (Rr A))
  (MJ:Zv "put_amendment" Gu 3 (QV A)) (F:Zo "amend" "amend" JO f fd):Xp OP (iU A 8):=by
 have nd:=S_.nd;refine F.ok S_ Zk Zn
 ·ext n
 ·ext l;obtain⟨e,x,t,rfl⟩:=al0 hk;ext p;obtain⟨dx,nl,tl,pl,Oc,F1,F0⟩:=hc.ex;have c1:=(dQ Oc).1;have c2:=(dQ F1).1;have c3:=(dQ F0).1;have n1:=Zmf;have n2:=Znk;have n3:=ZcG;have n4:=Ue;have n5:=ZmC;refine⟨_,(ao ZbX
   (ao (Xj Zd2)
   (ao (bg (PW.pt (px ZpM Zpb)) U9 bp)
   (ao (bg (eR (Z5 (az yr hr rfl (aa ZcR (aa (bE T.aoj rfl) ai))) Z2)) U9 bp)
   (ao (bg (Z5 (ZaU ZH Z3) Z2) (ak (ay (bh (aa (bE T.aol rfl) ai)))) bp)
   (ao (bg (WG (aD K (ZaU ZR Z3) rfl) ZH ZO) (ak (ay (bh (aa (bE T.an3 rfl) ai)))) bp)
   (ao (bg (WG (az M7 hr rfl (ZL ai)) (bE T.aof rfl) ZO) (ak (ay (bh (aa (bE T.an8 rfl) ai)))) bp)
   (ak (ay (bh (aa (az MJ hr rfl (aa (pv 0) (aa (pv 2) (aa (pv 3) (aa (aD K (pv 1) rfl) ai))))) ai))))))))))),?_⟩
  ext aF;refine⟨_,UW,_,bQ (j:=0) rfl,_,UW,_,bQ (j:=1) rfl,r,i,j,R,e,rfl,hR,wr,_,rfl,?_⟩;have bt:YC (Zb6 x t)=if e<0∨Zbt e.toNat=false∨Zjx x=false∨bytesOk t 60=false then(some R,[-1])else if R.absent.contains x.toNat=true then(some R,[-13])else if signerOf R.entries e.toNat=some x.toNat then(some R,[-14])else
   if 40<=R.entries.length-(choiceOf R).length then(some R,[-3])else(some {R with entries:=R.entries++[.amend e.toNat x.toNat (t.map Int.toNat)]},[Int.ofNat R.entries.length]):=rfl
  ext ab;rw[da]at bt;cases he:(decide (0<=e)&&Zbt e.toNat)with
  |false=>
   refine Zid;rw[bt,af];rw[zi,adO]at he;exact he.elim (λh=>.inl Zb) λh=>ZdE
  |true=>
   rw[aQ,bX]at he;refine ZjP;cases hf:ZbU Zd5 with
   |false=>exact aI (Y9 (by rw[bt,af (.inr (.inr (.inl hf)))]) ZW)
   |true=>
    refine aF ⟨_,_,_,c1,T.lG,n2,_,N6 _ _ _ _,tl,t,60,rfl,c3,hc.len,λH1 s1=>Yy⟩;cases hg:bytesOk t 60 with
    |false=>exact aI (Y9 (by rw[bt,af (.inr (.inr (.inr hg)))]) s1)
    |true=>
     rw[ae (by
      rintro(h|h|h|h)
      ·omega
      ·rw[he.2]at h;cases h
      ·rw[hf]at h;cases h
      ·rw[hg]at h;cases h)]at bt
     rw[sE,aQ,bX,bX]at hf;have kx:x.toNat<R.plan.persons.length:=by omega
     ext cS;have ee:e=((e.toNat:Nat):Int):=(mC he.1).symm;have fK:=XB;have sg:=fK.fC;refine aF ⟨_,_,_,sg.ins,T.dD,n3,_,z_ i,i.ab,rfl,_,_,rfl,ag.of fK.absent,.bl (R.absent.contains x.toNat),?_,_,rfl,?_⟩
     ·rw[ex];exact bQ (aeA kx)
     ·cases ha:R.absent.contains x.toNat with
      |true=>exact aI (Y9 (by rw[bt,af ha]) s1)
      |false=>
       rw[ae (by rw[ha];simp)]at bt;obtain⟨zs,h1,h2,h3⟩:=fK.entries;have rE:=he.2;obtain⟨en,xX,sn,yn,esn⟩:∃en,R.entries[e.toNat]? =some en/\∃sn yn,en=.sign sn yn:=by
        unfold Vbwbal.isSign at rE;cases hq:R.entries[e.toNat]? with
        |none=>rw[hq]at rE;cases rE
        |some en=>
         rw[hq]at rE;cases en with
         |sign a b=>exact⟨_,rfl,a,b,rfl⟩
         |amend a b c=>cases rE
       have hso:signerOf R.entries e.toNat=some yn:=by unfold Vbwbal.signerOf;rw[xX,esn]
       rw[hso]at bt;obtain⟨zz,EM,pK⟩:=get_map (show(zs.map ZZ)[e.toNat]? =some en by rw[h2];exact xX);obtain⟨dxe,txe,g1,g2⟩:=(h3 zz (bI EM)).same (jh H1 i.aH);have hep:eP zz.2=yn:=by have:zz.2=en:=pK.symm;rw[this,esn];rfl
       rw[hep]at g1;refine aF ⟨_,_,_,sg.ins,T.dD,n4,_,pk i,i.en,rfl,_,_,rfl,ag.of h1,.ref zz.1,?_,zz.1,rfl,_,_,_,g1,T.r8,n5,_,NI _ _ _ _,rfl,?_⟩
       ·rw[ee];exact bQ (by unfold refs;rw[cx,EM];rfl)
       ·have anw:decide (nat yn=V.int x)=decide (yn=x.toNat):=by rw[iS];simp only[bX,mU];omega
        rw[anw];by_cases hy:yn=x.toNat
        ·rw[bu hy];exact aI (Y9 (by rw[bt,af (by rw[hy])]) s1)
        ·rw[ae (λz=>hy (bY z))]at bt;rw[aX hy];refine aF ⟨r,i,j,R,rfl,fK,wr,λH2 s2=>ZbJ⟩;have cD:=YN;have A9:=wr.uU;obtain⟨na,hna⟩:∃na,na=R.entries.length-(choiceOf R).length :=Zs;rw[←hna]at bt A9⊢;have anv:decide (nat na=V.int 40)=decide (40<=na):=by rw[iS];simp only[bX,mU];omega
         rw[anv];by_cases Fv:40<=na
         ·rw[bu Fv];exact aI (Y9 (by rw[bt,af Fv]) cD)
         ·rw[ae Fv]at bt;rw[aX Fv];have Ti:=iy cD hR.dO;have pX:=hg;unfold Vbwbal.bytesOk at pX;rw[aQ,bX,dh]at pX;have ur:iv t=nats ZeV:=by unfold iv nats;rw[bz];refine gv λy hy=>?_;have:=pX.2 y hy;unfold Vbwbal.within at this;rw[aQ,bX]at this;show V.int y=nat y.toNat;unfold nat;rw[mC this.1]
          refine aF ⟨_,_,_,cD.at c1,T.lG,n2,_,N6 _ _ _ _,r,tl,i,j,R,e.toNat,x.toNat,ZeV,?_,hR.same cD,wr,?_,λH3 s3 oC=>?_⟩
          ·show[V.ref r,V.int e,V.int x,V.ref tl]=[V.ref r,V.int ((e.toNat:Nat):Int),V.int ((x.toNat:Nat):Int),V.ref tl];rw[←ee,←ex]
          ·rw[←ur];exact Ti.at F0
          ·exact Ed q bt (Ti.trans s3) oC (agq wr (by rw[aq];exact pX.1) Zb)
end
end
section
open Vbwbal (within bytesOk choiceOf does isStep isPerson signer unsigned canEnd)
abbrev asX:Zc:=["desk","text","plan","wrong","record"]
theorem Sv:aV asX GF (aA s_load):=Zl
def Fr(M M':Zz)(H H':Hp):Prop:=∀b o,NT o->b∉M->H b=some o->H' b=some o/\b∉M'
theorem Fr.same{M:Zz}{H H':Hp}(s:Zd):Fr M M H H':=λb o t hb e=>⟨ZbT t e,hb⟩
theorem Fr.cut{d:Addr}{L:Zz}{H H':Hp}(s:ah ZaQ (cut H' L)):Fr (d::L) (d::L) H H':=λb o t hb e=>⟨(dQ (ZbT t (d_ e λq=>hb ZdV))).1,hb⟩
def jI(A:Ad)(H:Hp)(d:Addr)(S:Vbwbal.State)(M:Zz):Prop:=Wi A.tab/\match S with
 |none=>M=[d]/\∃dx,H d=some (ZbM dx (mq .ba))
 |some R=>∃(dx r:Addr) (i:bC) (j:aW),M=d::i.aH/\H d=some (ZbM dx (mq Yr))/\Xn/\eJ R
theorem jI.same{A:Ad}{H H':Hp}{d:Addr}{S:Vbwbal.State}{M:Zz}(s:Zd)(h:Zc8):jI A H' d S M:=by
 obtain⟨t,h⟩:=h;refine⟨s.tab _ t,?_⟩;cases S with
 |none=>
  ext ax;exact⟨h1,dx,s.at h2⟩
 |some R=>
  ext ai;exact⟨dx,r,i,j,h1,s.at h2,h3.same s,h4⟩
theorem jI.j9{A:Ad}{H:Hp}{d:Addr}{S:Vbwbal.State}{M:Zz}(h:Zc8):∃dx v,H d=some (ZbM dx (mq v))/\d∈M:=by
 obtain⟨t,h⟩:=h;cases S with
 |none=>
  ext ax;exact ZrR
 |some R=>
  ext ai;exact ZrR
def ND(o:HO):Prop:=∀C dx v,o≠V1 dx (mq v)
theorem Ar(xs:Ze):ND Yq:=λ_ _ _ e=>by cases e
theorem akQ(xs:Ze):ND Vk:=λ_ _ _ e=>by cases e
theorem akR(xs:Yb):ND (.dK xs):=λ_ _ _ e=>by cases e
theorem Kz{C dx:Addr}{fs:Y6}(h:fs.length≠1):ND Up:=λC' dx' v e=>by
 injection e with _ _ e3
 rw[e3]at h;exact h rfl
theorem dw.keep{C:Addr}{H H':Hp}{p:Addr}{i:aW}{P:Plan}(k:Zqg)(h:Zi2):ZiI:=by have kl:∀b l,H b=some UR->H' b=some UR:=λb l e=>k b _ (Ar l) e;have rows:∀a ns,Zba ns->fN H' a ns:=λa ns ⟨rs,h1,h2⟩=>ZjW;have mN:∀a ns,U3 ns->g8 H' a ns:=λa ns ⟨rs,h1,h2⟩=>⟨rs,Xw h1,gA (λ_ _ e=>W7 (akQ _) e) h2⟩;exact⟨W7 (Kz (by show(7 :Nat)≠1;decide)) h.ins,Xw h.roles,Xw h.persons,Xw h.steps,Xw h.eF,W7 (akR _) h.pairs,ZdQ h.pr,ZdQ h.sr,U5 h.after,U5 h.unlike,U5 h.alike⟩
theorem dM.keep{A:Ad}{H H':Hp}{r:Addr}{i:bC}{j:aW}{R:Rc}(k:Zqg)(t:Tab H' A.tab)(h:Xn):ZbO j R:=by have kc:∀b o,ND o->YX b=some o->ZiT b=some o:=λb o n e=>let⟨e1,e2⟩:=dQ e;d_ (k b o n e1) e2;obtain⟨zs,e1,e2,e3⟩:=h.entries;refine⟨h.nd,ZpV h.ins,h.plan.keep kc,W7 (Ar _) h.absent,W7 (Ar _) h.ib,⟨zs,W7 (Ar _) e1,e2,λz hz=>?_⟩,t⟩;obtain⟨dx,tx,q1,q2⟩:=e3 z hz;exact⟨dx,tx,ZpV q1,kc _ _ (Ar _) q2⟩
theorem Ts{H H1 H':Hp}{L:Zz}(s:ZQ H1)(hL:∀b∈L,H b=none)(hl:jd H1 L)(c:ah (cut H1 L) (cut H' L)):Zd:=by
 have hn:∀b o,H b=some o->b∉L:=λb o e hb=>by rw[hL b hb]at e;cases e
 refine⟨λb o t e=>(dQ (c.keep b o t (d_ (ZbT t e) (hn b o e)))).1,λb ps e=>?_,λP h=>(jh H' L).tab P (c.tab P (HZ hl (s.tab P h)))⟩;obtain⟨p1,e1⟩:=Zgo e;obtain⟨p2,e2⟩:=c.b9 b p1 (d_ e1 (hn b _ e));exact⟨p2,(dQ e2).1⟩
theorem Tr{x:Addr}{H H0 H':Hp}(hx:H x=none)(s:ZQ H0)(b:Zgh H0 H'):Zd:=
 ⟨λc o t e=>b.keep c o (cg e hx) t (s.keep c o t e),λc ps e=>let⟨p1,e1⟩:=s.b9 c ps e;b.b9 c p1 e1,λP h=>b.tab P (s.tab P h)⟩
theorem ar9(P:Plan):kO P []=ZgO ZaE:=by unfold kO;rw[List.eq_replicate_iff];exact Zst
theorem ahu(P:Plan):ic P []=ZgY .ba :=by unfold ic;rw[List.eq_replicate_iff];exact Zst
def Q8(A:Ad):Sp:=λvs H Q _=>∃(d a:Addr) (S:Vbwbal.State) (M:Zz) (t:ZK),vs=[.ref d,.ref a]/\Zc8/\H a=some (.lst (iv t))/\a∉M/\t.length<=5000/\
 ∀(H':Hp) (l:Addr) (S':Vbwbal.State) (M':Zz) (c7:ZK),does S Zf7=(S',c7)->Fr M M' H H'->jI A H' d S' M'->H' l=some Ze5->c7.length<=100001->Z0 H'
section
variable {P:Program}{w:World}{K:PySem.W.Frag}{mg:Zy}{base:Heap}{A:Ad}
theorem ajO{f:Addr}{fd:FuncData}(T:Zm)(yr:Zv "is_text" BY 1 Iz)(Nb:Zbk "Plan" A.plan B7 1 (QW A))(MC:Zv "tell_text" Gj 5 (QL A))(Na:Zbk "Record" A.record B6 1 (QT A))
  (mi:ZgU) (F:Zo "load" "load" s_load f fd):Xp GF (Q8 A):=by
 have nd:=Sv.nd;refine F.ok Sv Zk Zn
 ·obtain⟨d,a,S,M,t,rfl,_⟩:=h;rfl
 ·obtain⟨d,a,S,M,t,rfl,hS,ha,haM,hlen,q⟩:=h;ext c;have n1:=ZmB;have n2:=Zbs;have n3:=Zbn;have n4:=Ui;have bt:does S Zf7=if bytesOk t 4000=false then(S,[-1])else match Vbwbal.read ZeV with
   | .error e=>(S,[-(Int.ofNat (100*e.1+e.2))-1000])
   | .ok p=>if canEnd p [] []=false then(S,[-7])else(some {plan:=p,absent:=[],entries:=[]},Vbwbal.ints [p.roles.length,p.persons.length,p.steps.length]):=rfl
  have one:∀(z:Int) (H':Hp),Zd->does S Zf7=(S,[z])->1<=sizeLine/\∀p,H' p=none->Zki:=λz H' s' e=>⟨X2,λp hp=>q _ p S M [z] e (Fr.same (s'.trans WE)) (hS.same (s'.trans WE)) au (by show 1<=100001;decide)⟩;refine⟨_,(ao (bg (eR (Z5 (az yr hr rfl (Xl (aa (bE T.aoh rfl) ai))) Z2)) U9 bp)
   (ao (WM (aaq Nb hr rfl))
   (ao (Xj (az MC hr rfl (XY Ws)))
   (ao (bg (bN pD ZH aR ZO) (ak (ay (bh (aa (cR qW (bE T.an0 rfl) ZH) ai)))) bp)
   (ao (Zcg (qS Na hr rfl (XY ai)))
   (ao (bg (eR (Z5 (az mi hr rfl (aa Yh ai)) Z2)) (ak (ay (bh (aa (bE T.aoo rfl) ai)))) bp)
   (ao (UI Yh rfl)
   (ak (ay (bh (aa (bW (c6 K) (by rfl) T.cM cU (aa (aD K (pv 2) rfl) ai)) (aa (bW (c6 K) (by rfl) T.cM cU (aa (aD K (pv 2) rfl) ai)) (aa (bW (c6 K) (by rfl) T.cM cU (aa (aD K (pv 2) rfl) ai)) ai))))))))))))),?_⟩
  ext a;refine⟨a,t,4000,rfl,ha,hlen,λH1 s1=>Yy⟩;cases hb:bytesOk t 4000 with
  |false=>exact aI (one (-1) H1 s1 (by rw[bt,af hb]))
  |true=>
   rw[ae (by rw[hb];simp)]at bt;refine aF λp pd hp LC aK=>?_;have pX:=hb;unfold Vbwbal.bytesOk at pX;rw[aQ,bX,dh]at pX;have ur:iv t=nats ZeV:=by unfold iv nats;rw[bz];refine gv λy hy=>?_;have:=pX.2 y hy;unfold Vbwbal.within at this;rw[aQ,bX]at this;show V.int y=nat y.toNat;unfold nat;rw[mC this.1]
   have Tw:Yc ZmG:=a0 LC;have ow:ZmG p=none:=by rw[ax ZmP];exact hp
   have cD:Yc (upd ZmG p (ZfE pd [])):=bV Tw hp (qY ow);refine⟨p,pd,rfl,au,λH3 i e3 IQ anh jB amV md anm acA=>ZbJ⟩;obtain⟨KA,akS⟩:=df.mp amV;have cG:Yc H3:=Tr hp cD IQ;have wL:=s1.trans cG;have b0:jd H3 i.aH:=λb fi=>⟨[],acA b fi⟩;have Np:∀b∈i.aH,H1 b=none:=λb fi=>cD.free (anm b (ZD fi));have ham:a∉i.aH:=λm=>by have:=Np a m;rw[s1.at ha]at this;cases this
   have i8:lI A H3 p i Vbwbal.empty:=by refine⟨λ_=>[],⟨akS,d_ (by rw[anh,e3]) (λm=>md (ZD m)),d_ jB KA,λk b e=>acA b (bI e)⟩,?_⟩;exact⟨rfl,rfl,rfl,ZeS,ZeS,rfl,ZeS,ZeS,ZeS⟩
   refine⟨p,a,i,ZeV,rfl,i8,by rw[←ur];exact d_ (wL.at ha) ham,by rw[aq];exact pX.1,λpl iE H4 sY lC wf=>?_,λn k iE H4 sY hn=>?_⟩
   ·rw[iE]at bt;have jS:Yc H4:=Ts cG Np b0 sY;have wK:=s1.trans jS;refine⟨_,rfl,aF λr rd hr amA amT=>?_⟩;have tj:ah H4 ZlM:=a0 amA;have Ly:ZlM r=none:=by rw[ax (λe=>amT e.symm)];exact hr
    have ji:ah H4 (upd ZlM r (.ins A.record rd [])):=bV tj hr (qY Ly);refine⟨r,rd,p,i,pl,rfl,au,lC.yJ.same ji,wf,λH6 ri e6 e6' sb6 anl amU acK acZ acQ acq=>ZbJ⟩;have gz:ah H4 H6:=Tr hr ji sb6;have Tx:=wK.trans gz;have fY:jd H6 ri.aH:=λb fi=>by
     unfold bC.aH at fi;rcases aJ.mp fi with e|fi
     ·exact⟨_,e▸acZ⟩
     rcases aJ.mp fi with e|fi
     ·exact⟨_,e▸acQ⟩
     ·rw[bo.mp fi];exact⟨_,acq⟩
    have Nn:∀b∈ri.aH,H4 b=none:=λb fi=>ji.free (anl b fi);have ju:r∉ri.aH:=λm=>by obtain⟨xs,e⟩:=fY r m;rw[acK]at e;cases e
    have s4c:ah H4 (cut H6 ri.aH):=by
     have hn:∀b o,H4 b=some o->b∉ri.aH:=λb o e m=>by rw[Nn b m]at e;cases e
     refine⟨λb o tt e=>d_ (gz.keep b o tt e) (hn b o e),λb ps e=>?_,λP h=>HZ fY (gz.tab P h)⟩;obtain⟨p1,q1⟩:=gz.b9 b ps e;exact⟨p1,d_ q1 (hn b _ e)⟩
    obtain⟨R0,ya⟩:∃R0:Rc,R0={plan:=pl,absent:=[],entries:=[]}:=Zs;have hF6:dM A H6 r ri i R0:=by rw[ya];refine⟨amU,d_ (by rw[acK,e6]) ju,?_,by rw[acZ];exact cb Zhm (ar9 pl).symm,by rw[acq];exact cb Zhm (ahu pl).symm,⟨[],acQ,rfl,λz hz=>Vd⟩,Tx.tab _ hS.1⟩;rw[e6'];exact lC.yJ.same s4c
    have PR:eJ R0:=by rw[ya];exact agp wf
    have anF:RecAt A H6 r ri i pl [] []:=by have:=hF6.fC;rw[ya]at this;exact this
    have hwc:gZ pl []:=by have:=PR.wc;rw[ya]at this;exact this
    refine⟨r,ri,i,pl,[],[],rfl,anF,wf,hwc,λH7 s7=>Yy⟩;have DQ:=Tx.trans s7;cases he:canEnd pl [] []with
    |false=>exact aI (one (-7) H7 DQ (by rw[bt];show(if canEnd pl [] []=false then _ else _)=_;rw[af he]))
    |true=>
     have hd:does S Zf7=(some R0,Vbwbal.ints [pl.roles.length,pl.persons.length,pl.steps.length]):=by rw[bt,ya];show(if canEnd pl [] []=false then _ else _)=_;rw[ae (by rw[he];simp)]
     obtain⟨dx,v,hdk,hdM⟩:=hS.j9;have Ma:=DQ.at hdk;have amF:fh (Str.ofString "record") (V.ref r) (mq v)=mq Yr:=rfl;have hF7:=hF6.same s7;obtain⟨H8,oE⟩:∃H8,H8=upd H7 d (ZbM dx (mq Yr)):=Zs;have uF:d∉ri.aH:=λm=>by have:=Nn d m;rw[wK.at hdk]at this;cases this
     have k8:∀b o,ND o->H7 b=some o->H8 b=some o:=λb o n e=>by
      have:b≠d:=λz=>by rw[z,Ma]at e;exact n _ _ _ (bY e).symm
      rw[oE,ax this];exact e
     have t8:Tab H8 A.tab:=by rw[oE];exact((BP d H7).put Ma).tab _ (DQ.tab _ hS.1)
     have hF8:=hF7.keep k8 t8;have pP:=hF8.fC.plan;rw[ya]at pP;have pP:dw A.plan H8 p i pl:=by rw[←e6'];exact pP
     refine aF ⟨_,_,_,Ma,T.BI,n1,(by show(1 :Nat)<1000;decide),?_⟩;rw[amF,←oE];refine⟨_,_,_,pP.ins,T.bU,n2,_,nX i,_,.inl ⟨_,ag.of pP.roles,(aq _).symm⟩,?_⟩;refine⟨_,_,_,pP.ins,T.bU,n3,_,kZ i,_,.inl ⟨_,ag.of pP.persons,(aq _).symm⟩,_,_,_,pP.ins,T.bU,n4,_,kY i,_,.inl ⟨_,ag.of pP.steps,(aq _).symm⟩,X2,λl hl=>?_⟩;have s9:ah H8 (upd H8 l (.lst [nat pl.roles.length,nat pl.persons.length,nat pl.steps.length])):=a0 hl;refine q _ l (some R0) (d::ri.aH) _ hd ?_ ⟨s9.tab _ t8,dx,r,ri,i,rfl,s9.at (by rw[oE];exact au),hF8.same s9,PR⟩ au (by show 3<=100001;decide);intro b o tt hbM e;have hbd:b≠d:=λz=>hbM (z▸hdM);refine⟨s9.keep b o tt ?_,λm=>?_⟩
     ·rw[oE,ax hbd];exact DQ.keep b o tt e
     ·rcases aJ.mp m with z|z
      ·exact hbd z
      ·have:=Nn b z;rw[wK.keep b o tt e]at this;cases this
   ·rw[iE]at bt;have jS:Yc H4:=Ts cG Np b0 sY;have acu:decide ((0 :Int)<((100*n+k:Nat):Int))=true:=bu Zb;refine⟨((100*n+k:Nat):Int),rfl,?_⟩;rw[acu];refine aI ⟨((100*n+k:Nat):Int),rfl,one _ H4 (s1.trans jS) ?_⟩;rw[bt];show(S,[-(((100*n+k:Nat):Int))-1000])=_;congr 2;omega
end
end
section
open Vbwbal (within bytesOk choiceOf does isStep isPerson signer unsigned canEnd callOf)
abbrev atd:Zc:=["desk","call"]
theorem S6:aV atd GW (aA JM):=Zl
abbrev atc:Zc:=["calls","desk","found","place","call"]
theorem S5:aV atc ka (aA zY):=Zl
structure afV(K:PySem.W.Frag)(mg:Zy)(A:Ad)(fs:X3):Prop where
 g:mg "ON_A_RECORD"=some (.ref A.Ee)
 D:qo K A.Ee fs
 names:∀n x,(n,x)∈oG->∃f,mg x=some Yn/\((n:Int),f)∈fs
theorem qw.cut{A:Ad}{H:Hp}{M L:Zz}{c:Addr}{k:Cl}(hs:∀b∈L,b∈M)(h:qw A (cut H M) c k):qw A ZaQ c k:=by obtain⟨dx,nl,tl,pl,h1,h2,h3⟩:=h.ex;have kc:∀b o,Br.cut H M b=some o->Br.cut H L b=some o:=λb o e=>let⟨e1,e2⟩:=dQ e;d_ e1 λq=>e2 (hs b q);exact⟨⟨dx,nl,tl,pl,kc _ _ h1,kc _ _ h2,kc _ _ h3⟩,h.len⟩
def Rp(A:Ad):Sp:=λvs H Q _=>∃(d c:Addr) (S:Vbwbal.State) (M:Zz) (k:Cl),vs=[.ref d,.ref c]/\Zc8/\qw A (cut H M) c k/\
 ∀(H':Hp) (l:Addr) (S':Vbwbal.State) (M':Zz) (c7:ZK),does S k=(S',c7)->Fr M M' H H'->jI A H' d S' M'->H' l=some Ze5->c7.length<=100001->Z0 H'
theorem arw(k:Cl)(h:cN k≠0):∃x,(cN k,x)∈oG:=by
 cases k<;>first
  |exact absurd rfl h
  |exact⟨_,by unfold cN oG;simp only[aJ,OA];simp;rfl⟩
section
variable {P:Program}{w:World}{K:PySem.W.Frag}{mg:Zy}{base:Heap}{A:Ad}
theorem ako{f:Addr}{fd:FuncData}{fs:X3}(T:Zm)(hD:afV K mg A fs)(MR:Zv "load" GF 17 (Q8 A))(Ms:∀n x,(n,x)∈oG->∃ps,Zv x ps 17 (iU A n))
  (F:Zo "answer_to" "answer_to" JM f fd):YV 18 f fd GW (Rp A):=by
 have nd:=S6.nd;refine F.ok S6 Zk Zn
 ·obtain⟨d,c,S,M,k,rfl,_⟩:=h;rfl
 ·obtain⟨d,c,S,M,k,rfl,hS,hc,q⟩:=h;ext c;have n1:=T.jW "number" ZT;have n2:=Znk;have n3:=ZmB;obtain⟨sx,ac0⟩:∃sx:V->Sp->Prop,sx=λx sp=>∃f fd ps,x=.ref f/\Xp ps sp/\Uh Yn=true/\UC ps []:=Zs;have anL:∀x sp,sx x sp->∃f fd ps,x=.ref f/\Xp ps sp/\Uh Yn=true/\UC ps []:=λx sp h=>by rw[ac0]at h;exact h
  obtain⟨dx,nl,tl,pl,Oc,F1,F0⟩:=hc.ex;obtain⟨c1,c1n⟩:=dQ Oc;obtain⟨c3,c3n⟩:=dQ F0;refine⟨_,(ao (bg (WG ZcR (bE T.adf rfl) ZO) (ak (ay (az MR hr rfl (ZL (aa ZcR ai))))) bp)
   (ao (bg (bN Ks Yp tM ZO) (ak (ay (bh (aa (bE T.an7 rfl) ai)))) bp)
   (ak (ay (aiC hr anL (aiB K hD.D hD.g rfl (aD K (pv 1) rfl) (λ_ _=>rfl)) (aa (aD K (pv 0) rfl) (aa (pv 1) ai))))))),?_⟩
  simp! [c1,T.lG,n1,aec];by_cases ng:cN k=0
  ·obtain⟨t,rfl⟩:∃t,k=.load t:=by cases k<;>first |exact⟨_,rfl⟩|cases ng
   rw[bu (show((cN Zf7:Nat):Int)=0 from rfl)];exact aI ⟨n2,_,N6 _ _ _ _,d,tl,S,M,t,rfl,hS,c3,c3n,hc.len,q⟩
  ·rw[aX (show¬((cN k:Nat):Int)=0 by omega)];cases S with
   |none=>
    obtain⟨ht,hM,dd,hd⟩:=id hS;refine aF Zkl;have L_:does none k=(none,[-2]):=by cases k<;>first |exact absurd rfl ng|rfl
    refine aI ⟨X2,λp hp=>?_⟩;have s1:ZQ (Zw p (.lst [V.int (-2)])):=WE;exact q _ p none M [-2] L_ (Fr.same s1) (hS.same s1) au (by show 1<=100001;decide)
   |some R=>
    obtain⟨ht,dd,r,i,j,hM,hd,hF,wr⟩:=id hS;refine aF Zkl;ext g;obtain⟨x,hx⟩:=arw k ng;obtain⟨ps,G⟩:=Ms _ _ hx;obtain⟨fa,yD,hFn,hm,LV,hb⟩:=G.ex;obtain⟨fb,kH,jy⟩:=hD.names _ _ hx;rw[hm]at kH;cases kH
    unfold Qn Qm;simp! [c1,T.lG,n1,aec];refine⟨fa,jy,iU A (cN k),?_,?_⟩
    ·rw[ac0];exact⟨fa,yD,ps,rfl,hFn,LV,hb⟩
    ·refine Zkl;subst hM;have uF:d∉i.aH:=λm=>by obtain⟨xs,e⟩:=hF.dO d m;rw[hd]at e;cases e
     refine⟨r,c,i,j,R,k,rfl,hF,wr,hc.cut (λb hb=>Za3),rfl,λH' l R' c7 e1 sc hF' wr' hl hn=>?_⟩;refine q H' l (some R') (d::i.aH) c7 e1 (Fr.cut sc) ⟨hF'.tab,dd,r,i,j,rfl,?_,hF',wr'⟩ hl hn;exact(dQ (sc.at (d_ hd uF))).1
end
end
section
open Vbwbal (within bytesOk choiceOf does isStep isPerson signer unsigned canEnd callOf)
open PyVbwbal (shape)
def NF(o:HO):Prop:=∀a u,o≠.bL a u
theorem dw.ua{C:Addr}{H H':Hp}{p:Addr}{i:aW}{P:Plan}(k:Zj2)(h:Zi2):ZiI:=by have kl:∀b l,H b=some UR->H' b=some UR:=λb l e=>k b _ Zd3 e;have rows:∀a ns,Zba ns->fN H' a ns:=λa ns ⟨rs,h1,h2⟩=>ZjW;have mN:∀a ns,U3 ns->g8 H' a ns:=λa ns ⟨rs,h1,h2⟩=>⟨rs,Xw h1,gA (λ_ _ e=>VR e) h2⟩;exact⟨VR h.ins,Xw h.roles,Xw h.persons,Xw h.steps,Xw h.eF,VR h.pairs,ZdQ h.pr,ZdQ h.sr,U5 h.after,U5 h.unlike,U5 h.alike⟩
theorem Tab.ua{H H':Hp}{P:Addr}(k:Zj2)(h:Wi P):Tab H' P:=by obtain⟨ps,h1,h2,h3⟩:=h;refine⟨ps,VR h1,h2,λpos cv e=>?_⟩;obtain⟨c,e1,e2⟩:=Zdk;exact⟨c,e1,VR e2⟩
theorem jI.ua{A:Ad}{H H':Hp}{d:Addr}{S:Vbwbal.State}{M:Zz}(k:Zj2)(h:Zc8):jI A H' d S M:=by
 obtain⟨t,h⟩:=h;refine⟨t.ua k,?_⟩;cases S with
 |none=>
  ext ax;exact⟨h1,dx,VR h2⟩
 |some R=>
  ext ai;refine⟨dx,r,i,j,h1,VR h2,?_,h4⟩;have kc:∀b o,NF o->YX b=some o->ZiT b=some o:=λb o n e=>let⟨e1,e2⟩:=dQ e;d_ (k b o n e1) e2;obtain⟨zs,e1,e2,e3⟩:=h3.entries;refine⟨h3.nd,kc _ _ Zd3 h3.ins,h3.plan.ua kc,VR h3.absent,VR h3.ib,⟨zs,VR e1,e2,λz hz=>?_⟩,h3.tab.ua k⟩;obtain⟨dx,tx,q1,q2⟩:=e3 z hz;exact⟨dx,tx,kc _ _ Zd3 q1,kc _ _ Zd3 q2⟩
theorem abV{H:Hp}{f:Addr}{o:Obj}{u v:HO}(h:H f=some ZaK):∀b p,NF p->H b=some p->Zw f v b=some p:=λb p n e=>by
 have:b≠f:=λz=>by rw[z,h]at e;exact n _ _ (bY e).symm
 rw[ax this];exact e
theorem jI.mem{A:Ad}{H:Hp}{d:Addr}{S:Vbwbal.State}{M:Zz}(h:Zc8):∀b∈M,∃o,H b=some o/\NF o:=by
 obtain⟨t,h⟩:=h;intro b hb;cases S with
 |none=>
  ext ax;rw[h1,bo]at hb;exact⟨_,by rw[hb];exact h2,λ_ _ q=>ZfZ⟩
 |some R=>
  ext ai;rw[h1]at hb;rcases aJ.mp hb with e|e
  ·exact⟨_,by rw[e];exact h2,λ_ _ q=>ZfZ⟩
  ·obtain⟨xs,q⟩:=h3.dO b e;exact⟨_,q,λ_ _ q=>ZfZ⟩
theorem adh{K:PySem.W.Frag}{M M':Zz}{H H':Hp}{a:Addr}{xs:Ze}(f:Fr M M' H H')(h:ag K (cut H M) a xs):ag K (cut H' M') a xs:=by
 have k:∀b o,NT o->cut H M b=some o->cut H' M' b=some o:=λb o t e=>by obtain⟨e1,e2⟩:=dQ e;obtain⟨q1,q2⟩:=f b o t e2 e1;exact d_ q1 q2
 rcases h with(h|⟨o,h⟩)|h
 ·exact .inl (.inl (k _ _ trivial h))
 ·exact .inl (.inr ⟨o,k _ _ trivial h⟩)
 ·exact Vs
theorem call_of{l:ZK}{c:Uw}{t:ZK}{m n:Nat}{nums txt:ZK}{places:Nat}(cp:Zmx txt places):∃k,callOf c=some k/\cN k=m/\cL k=nums/\cT k=txt:=by
 have hn:=cp.cnt;have hl:=cp.aaN;have row:=cp.row;have bare:=cp.bare;have two:n=2->∃a b,nums=[a,b]:=λe=>by
  match nums,hl.trans e with
  |[a,b],_=>exact Zja
 have one:n=1->∃a,nums=[a]:=λe=>by
  match nums,hl.trans e with
  |[a],_=>exact⟨a,rfl⟩
 have zero:n=0->nums=[]:=λe=>Cn.mp (hl.trans e);have nc:∀q,NC[m]? =some q->n=q:=λq e=>by rw[hn]at e;exact bY e
 match m,cp.lt,nc,row,bare with
 |0,_,nc,row,_=>
  obtain⟨k,_,_,_,_,e⟩:=row Xf;rw[zero (nc 0 rfl)]at e⊢;exact⟨.load txt,Xo,rfl,rfl,rfl⟩
 |1,_,nc,_,bare=>
  ext C;exact⟨.shown,Xo,rfl,rfl,e0.symm⟩
 |2,_,nc,_,bare=>
  ext aO;exact⟨.sign a b,Xo,rfl,rfl,e0.symm⟩
 |3,_,nc,_,bare=>
  ext aO;exact⟨.absent a b,Xo,rfl,rfl,e0.symm⟩
 |4,_,nc,_,bare=>
  ext C;exact⟨.plan,Xo,rfl,rfl,e0.symm⟩
 |5,_,nc,_,bare=>
  ext C;exact⟨.core,Xo,rfl,rfl,e0.symm⟩
 |6,_,nc,_,bare=>
  ext C;exact⟨.needed,Xo,rfl,rfl,e0.symm⟩
 |7,_,nc,_,bare=>
  ext aP;exact⟨.who a,Xo,rfl,rfl,e0.symm⟩
 |8,_,nc,row,_=>
  obtain⟨k,_,_,_,_,e⟩:=row Zdm;obtain⟨a,b,ab⟩:=two (nc 2 rfl);rw[ab]at e⊢;exact⟨.amend a b txt,Xo,rfl,rfl,rfl⟩
 |9,_,nc,_,bare=>
  ext aP;exact⟨.view a,Xo,rfl,rfl,e0.symm⟩
 |10,_,nc,_,bare=>
  ext aP;exact⟨.history a,Xo,rfl,rfl,e0.symm⟩
 |11,_,nc,_,bare=>
  ext aO;exact⟨.may a b,Xo,rfl,rfl,e0.symm⟩
 |12,_,nc,_,bare=>
  ext C;exact⟨.released,Xo,rfl,rfl,e0.symm⟩
 |13,_,nc,_,bare=>
  ext C;exact⟨.ways,Xo,rfl,rfl,e0.symm⟩
 |14,_,nc,_,bare=>
  ext C;exact⟨.names,Xo,rfl,rfl,e0.symm⟩
theorem arT{l:ZK}{c:Uw}{t:ZK}{m n:Nat}{nums txt:ZK}{places:Nat}(cp:Zmx txt places)(h:VbwbalNeutral.asked1 c=true):txt.length<=5000:=by
 by_cases hm:m=0∨m=8
 ·obtain⟨k,_,_,_,_,e⟩:=cp.row hm;have hn:=cp.cnt;have hl:=cp.aaN;rcases hm with rfl|rfl
  ·have hn0:n=0:=(bY hn).symm;have hz:nums=[]:=Cn.mp (hl.trans hn0);rw[hz]at e;rw[e]at h;have h:(txt.all Zqf&&decide (txt.length<=5000))=true:=h;rw[aQ,bX]at h;exact h.2
  ·have fH:n=2:=(bY hn).symm
   match nums,hl.trans fH,e with
   |[a,b],_,e=>
    rw[e]at h;have h:(VbwbalNeutral.whole64 a&&(VbwbalNeutral.whole64 b&&(txt.all Zqf&&decide (txt.length<=5000))))=true:=h;rw[aQ,aQ,aQ,bX]at h;exact h.2.2.2
 ·have:=(cp.bare (λe=>hm Zcb) (λe=>hm (.inr e))).1;rw[this];exact ZI
def sW(A:Ad)(K:PySem.W.Frag):Sp:=λvs H Q _=>∃(a:Addr) (l:ZK),vs=[.ref a]/\Y2 a VY/\l.length<=16000/\PyVbwbal.answers_asked l=true/\Wi A.tab/\
 ∀(H':Hp) (r:Addr),H' r=some (.lst (iv (PyVbwbal.answers l)))->Tab H' A.tab->Q Yr H'
theorem step_call{S:Vbwbal.State}{c:Uw}{k:Cl}(h:callOf c=some k):ZeD c=does S k:=by show Vbwbal.step S c=_;unfold Vbwbal.step;rw[h]
theorem ag1{H:Hp}{P f:Addr}{o o':HO}(h:Tab (Zw f o) P)(h1:∀ps,o≠.b9 ps)(h2:∀φ,o≠.ext φ)(hf:H f=some o'):Wi P:=by
 obtain⟨ps,e1,e2,e3⟩:=h;have off:∀b p,Zw f o b=some p->p≠o->H b=some p:=λb p e n=>by
  by_cases q:b=f
  ·rw[q,au]at e;exact absurd (bY e).symm n
  ·rw[ax q]at e;exact e
 refine⟨ps,off _ _ e1 λq=>h1 ps q.symm,e2,λpos cv e=>?_⟩;ext bb;exact⟨c,q1,off _ _ q2 λq=>h2 _ q.symm⟩
theorem ahN{H H':Hp}{f:Addr}{od:Obj}{xs:Ze}(s:Zd)(hf:H f=some Yq):ah (Zw f (.bL od Yq)) (Wz f (.bL od Yq)):=by
 have Fm:=s.at hf;refine⟨λb o t e=>?_,λb ps e=>?_,λP h=>?_⟩
 ·by_cases q:b=f
  ·rw[q,au]at e⊢;exact e
  ·rw[ax q]at e⊢;exact ZbT t e
 ·by_cases q:b=f
  ·rw[q,au]at e;cases e
  ·rw[ax q]at e⊢;exact Zgo e
 ·have h1:=ag1 h (λ_ q=>ZfZ) (λ_ q=>ZfZ) hf;obtain⟨ps,e1,e2,e3⟩:=s.tab P h1;refine⟨ps,?_,e2,λpos cv e=>?_⟩
  ·rw[ax (ie e1 Fm (by intro z;cases z))];exact e1
  ·ext bb;refine⟨c,q1,?_⟩;rw[ax (ie q2 Fm (by intro z;cases z))];exact q2
theorem agQ(S:Vbwbal.State)(c:Uw)(r:ZdG):PyFlat.told (Zkh S VX)=(((ZeD c).2.length :Int)::(ZeD c).2)++PyFlat.told (PyFlat.played VbwbalNeutral.step (ZeD c).1 r):=rfl
section
variable {P:Program}{w:World}{K:PySem.W.Frag}{mg:Zy}{base:Heap}{A:Ad}
theorem akn{f:Addr}{fd:FuncData}(T:Zm)(Ni:Zbk "Desk" A.j9 B8 1 (Rg A))(M4:Zv "call_at" GS 3 (Rn A K))(dZ:Ub)(M5:Zv "answer_to" GW 18 (Rp A))
  (F:Zrt):YV 19 f fd ka (sW A K):=by
 have nd:=S5.nd;refine F.ok S5 Zk Zn
 ·obtain⟨a,l,rfl,_⟩:=h;rfl
 ·obtain⟨a,l,rfl,ha,hl,lB,acm,q⟩:=h;ext c;have n1:=T.jW "places" ZT;refine⟨_,(ao (W2 (aaq Ni hr rfl))
   (ao Zdq
   (ao (Xj aR)
   (ao (Ke dF (bN qX ZH Zaj ZO) (ao (Zcg (az M4 hr rfl (ZL X4)))
   (ao (dU (Uj ZR (aa (aas (az dZ hr rfl (aa (az M5 hr rfl (Xl ZaD)) ai))) ai)))
   (ak (T_ 3 nd (aD K (pv 4) rfl) ab6)))))
   (ak (ay (pv 2))))))),?_⟩
  ext a;intro d dd hd bt aK;refine⟨d,dd,rfl,au,rfl,?_⟩;rw[jP];have s1:ZQ ZhU:=a0 bt;have hd1:ZhU d=none:=by rw[ax ZmP];exact hd
  have s2:ZQ (upd ZhU d Zmi):=bV s1 hd (qY hd1);obtain⟨H2,fL⟩:∃H2,H2=upd ZhU d Zmi:=Zs;have hd2:H2 d=some Zmi:=by rw[fL];exact au
  rw[←fL]at s2⊢;refine⟨ZI,λff hf=>?_⟩;have s3:Xx (YD ff Ye):=a0 hf;obtain⟨H3,uM⟩:∃H3,H3=YD ff Ye:=Zs;rw[←uM]at s3⊢;have L3:H3 ff=some (.lst (iv [])):=by rw[uM];exact au
  have L5:d≠ff:=cg hd2 hf;obtain⟨cs0,hcs0,x9,dB⟩:∃cs,PyVbwbal.calls l=some cs/\cs.length<=100/\∀c∈cs,VbwbalNeutral.asked1 c=true:=by
   unfold PyVbwbal.answers_asked at lB;cases e:PyVbwbal.calls l with
   |none=>rw[e]at lB;cases lB
   |some cs=>
    rw[e]at lB;have lB:(PyFlat.atMost 100 cs&&VbwbalNeutral.asked cs)=true:=lB;rw[aQ]at lB;have h2:=lB.2;unfold VbwbalNeutral.asked at h2;rw[aQ,dh]at h2;exact⟨cs,rfl,lX lB.1,h2.1⟩
  have anG:PyVbwbal.answers l=PyFlat.told (Zkh none cs0):=by unfold PyVbwbal.answers;rw[hcs0];rfl
  have ha3:ag K (cut H3 (ff::[d])) a VY:=by
   have off:∀o,NT o->H a=some o->cut H3 (ff::[d]) a=some o:=λo t e=>by
    refine d_ (s3.keep a o t (s2.keep a o t e)) λm=>?_;rcases aJ.mp m with z|z
    ·exact(cg (s2.keep a o t e) hf) z
    ·exact(cg e hd) (bo.mp z)
   rcases ha with(h|⟨o,h⟩)|h
   ·exact .inl (.inl (off _ trivial h))
   ·exact .inl (.inr ⟨o,off _ trivial h⟩)
   ·exact Vs
  obtain⟨Pw,cj⟩:∃Pw:L2.St->Hp->Prop,∀σ H',Pw σ H'↔∃(pl:Nat) (cs:ZdG) (S:Vbwbal.State) (M:Zz) (Fl:ZK) (v4:ZM),σ=[some ZY,some Wc,some (.ref ff),some (nat pl),v4]/\pl<=l.length/\ag K (cut H' (ff::M)) a VY/\H' ff=some (.lst (iv Fl))/\(∀od,jI A (Wz ff Zhf) d S M)/\Tab H' A.tab/\Left (l.drop pl) cs/\(∀c∈cs,VbwbalNeutral.asked1 c=true)/\
   PyVbwbal.answers l=Fl++PyFlat.told (Zkh S cs)/\Fl.length+100002*cs.length<=10000200:=ZmQ
  refine HP Pw (fun σ _=>16001-natAt σ 3) ((cj _ _).mpr ⟨0,cs0,none,[d],[],none,rfl,ZI,ha3,L3,λod=>?_,s3.tab _ (s2.tab _ acm),aq7 hcs0,dB,by rw[anG];rfl,by show 0+_<=_;omega⟩) ?_ ?_
  ·have jB:=s3.at hd2;refine⟨?_,rfl,dd,by rw[ax L5];exact jB⟩;obtain⟨ps,e1,e2,e3⟩:=s3.tab _ (s2.tab _ acm);refine⟨ps,by rw[ax (ie e1 L3 (by intro z;cases z))];exact e1,e2,λpos cv e=>?_⟩;ext bb;exact⟨c,q1,by rw[ax (ie q2 L3 (by intro z;cases z))];exact q2⟩
  ·intro σ H4 hw;obtain⟨pl,cs,S,M,Fl,v4,rfl,cC,Bd,rQ,aT,ht4,LQ,acY,acX,hlen⟩:=(cj _ _).mp hw;have QA:ag K H4 a VY:=(jh H4 (ff::M)).seq Bd;ext a;refine⟨l.length,.inl ⟨_,QA,(oj l).symm⟩,?_⟩;by_cases bG:pl<l.length
   ·rw[bu (show(pl:Int)<(l.length:Int) by omega)];obtain⟨c,t,r,hc,rfl,am8⟩:=alz LQ (λe=>by have:=Zaw e;rw[mz,jK]at this;omega)
    obtain⟨m,n,nums,txt,places,cp⟩:=arc hc;obtain⟨k,gT,uA,LX,hk4⟩:=call_of cp;have anE:=acY c aY;have pO:=arT cp anE;refine aI ⟨a,pl,l,c,t,m,n,nums,txt,places,rfl,QA,hl,cp,λH5 qc dx nl tl s5 xM xK amP amq amQ amr=>?_⟩;have acN:=s5.at rQ;simp! [cQ acN];refine⟨ff,_,acN,trivial,λod=>?_⟩;obtain⟨H6,rV⟩:∃H6,H6=upd H5 ff Zhf:=Zs;have amw:jI A H6 d S M:=by rw[rV];exact(aT od).same (ahN s5 rQ)
    have hM:∀b,H4 b=none->b∉M/\b≠ff:=λb hb=>by
     have hbf:b≠ff:=λz=>by rw[z,rQ]at hb;cases hb
     refine⟨λm=>?_,hbf⟩;obtain⟨o,e,_⟩:=(aT od).mem b m;rw[ax hbf,hb]at e;cases e
    have ant:ff∉M:=λm=>by obtain⟨o,e,nf⟩:=(aT od).mem ff m;rw[au]at e;exact nf _ _ (bY e).symm
    have F3:∀b o,H4 b=none->H5 b=some o->cut H6 M b=some o:=λb o h0 e=>by obtain⟨b1,b2⟩:=hM b h0;refine d_ ?_ b1;rw[rV,ax b2];exact e
    have anC:qw A (cut H6 M) qc k:=⟨⟨dx,nl,tl,nat places,by rw[uA];exact F3 _ _ xM xK,by rw[LX];exact F3 _ _ amQ amP,by rw[hk4];exact F3 _ _ amr amq⟩,by rw[hk4];exact pO⟩;rw[←rV];ext a;refine⟨d,qc,S,M,k,rfl,amw,anC,λH7 l7 S' M' c7 L_ jA amv pV hn7=>?_⟩;have anP:H6 ff=some Zhf:=by rw[rV];exact au
    obtain⟨anO,avb⟩:=jA ff Zhf trivial ant anP;obtain⟨qc6,qcM⟩:=dQ (F3 _ _ xM xK);obtain⟨anN,atH⟩:=jA qc Zoz trivial qcM qc6;refine⟨l7,iv c7,rfl,pV,by rw[oj];omega,λH8 l8 s8 acE ly=>?_⟩;have Ft:=s8.at anO;have ana:l8≠ff:=λz=>by rw[z,Ft]at ly;cases ly
    have hqf:qc≠ff:=(hM qc xM).2;have acp:=amv.same s8;have aqd:ZeD c=(S',c7):=by rw[step_call gT,L_]
    rw[bb]at hlen;have anM:=s8.at anN;obtain⟨zg,Ml⟩:∃zg,zg=Fl++((c7.length:Int)::c7):=Zs;have eFl:iv Fl++nat (iv c7).length ::iv c7=iv zg:=by rw[Ml,alS,oj];rfl
    have avg:zg.length=Fl.length+1+c7.length:=by rw[Ml,bS,bb];omega
    refine⟨Ft,l8,rfl,_,by rw[ax ana];exact ly,by rw[bb,oj,oj];omega,_,_,_,by rw[ax hqf];exact anM,T.lG,n1,_,aru _ _ _ _,_,rfl,?_⟩;rw[eFl];have amI:=cp.le;have auU:=cp.pos;rw[mz]at amI;have epl:V.int ((pl:Int)+((places:Nat):Int))=nat (pl+places):=by unfold nat;rw[Int.natCast_add]
    rw[epl];have AZ:16001-natAt [some (V.ref a),some (V.ref d),some (V.ref ff),some (nat (pl+places)),some (V.ref qc)] 3<16001-natAt [some (V.ref a),some (V.ref d),some (V.ref ff),some (nat pl),v4] 3:=by show 16001-(pl+places)<16001-pl;omega
    refine⟨(cj _ _).mpr ⟨pl+places,r,S',M',zg,_,rfl,Zb,?_,au,λod'=>?_,acp.1.ua (abV Ft),?_,λc' fI=>acY c' (ZD fI),?_,Zb⟩,AZ⟩
    ·have ano:Fr (ff::M) (ff::M') H6 H8:=λb o tt hb e=>by
      obtain⟨q1,q2⟩:=jA b o tt (λz=>hb (ZD z)) e;refine⟨s8.keep b o tt q1,λz=>?_⟩;rcases aJ.mp z with z|z
      ·exact hb (by rw[z];exact aY)
      ·exact q2 z
     have e6:cut H6 (ff::M)=cut H5 (ff::M):=by rw[rV];exact uX aY
     have e9:cut (upd H8 ff (.lst (iv zg))) (ff::M')=cut H8 (ff::M'):=uX aY;rw[e9];refine adh ano ?_;rw[e6];exact adh (Fr.same s5) Bd
    ·rw[jP];exact acp.ua (abV Ft)
    ·have:=cp.rest;rw[zd]at this;rw[←this];exact am8
    ·rw[acX,agQ,aqd,Ml,eC]
   ·rw[aX (show¬(pl:Int)<(l.length:Int) by omega)];have da:pl=l.length:=by omega
    rw[da,Hg]at LQ;have Me:=aly LQ;subst Me;have anH:PyVbwbal.answers l=Fl:=acX.trans (fc Fl);ext g;exact q H4 ff (by rw[rQ,anH]) ht4
  ·ext bJ
end
end
section
open PySem.W (nsIn findIn)
section
variable {P:Program}{w:World}{K:PySem.W.Frag}{mg:Zy}{base:Heap}{A:Ad}{fs:X3}
theorem g_.of{x:Str}(h:g_ K x)(X:UM)(G:V9):mg x=none:=PySem.W.mg_none_of X G h
theorem cu.of{x:Str}{v:Tok->Value}(h:ZP x v)(X:UM)(G:V9):∃t,mg x=some (v t):=let⟨t,e⟩:=h;⟨t,vf X G e⟩
theorem Bound.txt(B:ZiW)(X:UM)(G:V9):Zm:=by
 have F:=B.bf;cases F
 cases B
 constructor<;>first |assumption|exact g_.of (by assumption) X G|exact vf X G (by assumption)|exact cu.of (v:=.int _) (by assumption) X G|exact cu.of (v:=.str _) (by assumption) X G|exact gc.cl (by assumption)|exact gc.no (by assumption)
theorem aw.got(P:Program)(w:World){x:Str}{st:Stmt}{ps:Zc}{k:Nat}{sp:Sp}(X:UM)(G:V9)(h:Zq x st ps)(ok:∀f fd,Zo x x st f fd->Zh7):Zv x ps k sp:=by obtain⟨f,fd,i⟩:=h;exact⟨f,fd,ok f fd i.F,vf X G i.ns,i.F.kp,i.b⟩
theorem gc.got(P:Program)(w:World){x qual:Str}{st:Stmt}{ps fl:Zc}{C:Addr}{k:Nat}{sp:Sp}(X:UM)(G:V9)(h:gc K x qual st ps fl C)(ok:∀f fd,Zav qual st f fd->Zh7):Zbk x C ps k sp:=by obtain⟨f,fd,m,F,b⟩:=h.mkr;exact⟨f,fd,m,ok f fd F,vf X G h.ns,b⟩
theorem Bound.answers{c:Addr}(B:ZiW)(X:UM)(G:V9)(ht:ZqH)(hC:ZeB A.tab)(hB:Zfg){f:Addr}{fd:FuncData}(F:Zrt):YV 19 f fd ka (sW A K):=by
 have B0:=B.bf;have T:=B.txt X G;have Nb:=ZcV B.N8 λ_ _ F=>ajv T F;have uQ:=ZcV B.N9 λ_ _ F=>ajC T F;have yx:=ZcV B.N_ λ_ _ F=>aj5 T F;have Na:=ZcV B.N7 λ_ _ F=>ajq T F;have Ni:=ZcV B.Oa λ_ _ F=>aj6 T F;have FG:=ZcV B.Ob λ_ _ F=>akh T F;have FD:=Zr B0.apW λ_ _ F=>akl T F;have FC:=Zr B0.api λ_ _ F=>ajE T F;have p7:=Zr B0.ao3 λ_ _ F=>ajm T F;have M0:=Zr B0.apO λ_ _ F=>akc T p7 FC F;have MO:=Zr B0.apl λ_ _ F=>ajH T F;have fA:=Zr B0.aoP λ_ _ F=>ai8 T F;have p8:=Zr B0.apa λ_ _ F=>aju T F;have yq:=Zr B0.apr λ_ _ F=>ajM T F;have p9:=Zr B0.ape λ_ _ F=>ajz F;have FA:=Zr B0.apf λ_ _ F=>ajA T p9 F;have yu:=Zr B0.apE λ_ _ F=>aj0 T FA p7 F;have iK:=Zr B0.apj λ_ _ F=>ajF T fA p8 yq yu F;have MP:=Zr B0.apm λ_ _ F=>ajI T F;have qa:=Zr B0.apN λ_ _ F=>akb T MP F;have MX:=Zr B0.apJ λ_ _ F=>aj7 T iK qa fA p8 M0 FD MO F;have pZ:=Zr B0.ao1 λ_ _ F=>ajk T F;have M8:=Zr B0.ap4 λ_ _ F=>akt T p9 pZ F;have yk:=Zr B0.aoQ λ_ _ F=>ai9 T p9 F;have MM:=Zr B0.apg λ_ _ F=>ajB T pZ yk uQ F;have ML:=Zr B0.apd λ_ _ F=>ajy T pZ yk uQ F;have Bm:Zk7 11 (C5 A 7):=by obtain⟨f,fd,i⟩:=B0.apP;have hm:=vf X G i.ns;obtain⟨oc,od,kV,doc,pm,an,aG,ct,jl,e,lk,_⟩:=i.F.ex;have hc:fd.code=.ref c:=PySem.W.law_code (o:=⟨oc,od,.func fd,jl⟩) X G ht hm (X _ _ lk) rfl;exact⟨f,fd,akd T ML i.F hm i.b hc hC hB 7,hm,i.F.kp,i.b⟩
 have M1:=Zr B0.apQ λ_ _ F=>ake T M8 MM Bm F;have j8:=Zr B0.apI λ_ _ F=>aj4 T p7 M1 F;have mi:=Zr B0.apS λ_ _ F=>akg T iK j8 F;have uP:=Zr B0.apF λ_ _ F=>aj1 T F;have M3:=Zr B0.apR λ_ _ F=>akf T iK uP j8 F;have MW:=Zr B0.apH λ_ _ F=>aj3 T iK fA uP j8 F;have MN:=Zr B0.apk λ_ _ F=>ajG T F;have MY:=Zr B0.apK λ_ _ F=>aj8 T iK fA qa MN j8 F;have Mz:=Zr B0.aoK λ_ _ F=>ai3 T F;have MQ:=Zr B0.apn λ_ _ F=>ajJ T iK p8 qa Mz j8 F;have rX:=Zr B0.apA λ_ _ F=>ajV T F;have Bn:=Zr B0.apX λ_ _ F=>akm T rX F;have MT:=Zr B0.apB λ_ _ F=>ajW T F;have MU:=Zr B0.apD λ_ _ F=>ajZ T rX Bn MT F;have Bl:=Zr B0.aoI λ_ _ F=>ai1 T F;have yp:=Zr B0.aph λ_ _ F=>ajD T F;have yl:=Zr B0.aoR λ_ _ F=>aja T F;have MZ:=Zr B0.apM λ_ _ F=>aka T yl F;have Mx:=Zr B0.aoH λ_ _ F=>ai0 T yp MZ F;have My:=Zr B0.aoJ λ_ _ F=>ai2 T MU Bl Mx F;have MF:=Zr B0.aoW λ_ _ F=>ajf T F;have MS:=Zr B0.apv λ_ _ F=>ajQ T MF F;have p_:=Zr B0.apx λ_ _ F=>ajS T F;have mh:=Zr B0.apz λ_ _ F=>ajU T F;have yr:=Zr B0.apw λ_ _ F=>ajR T F;have M4:=Zr B0.apT λ_ _ F=>aki T FG F;have dZ:=Zr B0.apu λ_ _ F=>ajP T F;have rY:=Zr B0.apU λ_ _ F=>akj T F;have ym:=Zr B0.ao5 λ_ _ F=>ajo T F;have MK:=Zr B0.apc λ_ _ F=>ajx T ym F;have ME:=Zr B0.aoV λ_ _ F=>aje T ym F;have MG:=Zr B0.aoY λ_ _ F=>ajh T rY MK ME F;have avm:=Zr B0.ao0 λ_ _ F=>ajj T dZ MG F;have avu:=Zr B0.apL λ_ _ F=>aj9 T dZ mi MY F;have avq:=Zr B0.apo λ_ _ F=>ajK T dZ fA MQ F;have avo:=Zr B0.ao6 λ_ _ F=>ajp T fA F;have avj:=Zr B0.aoM λ_ _ F=>ai5 T fA MX F;have qb:=Zr B0.apV λ_ _ F=>akk T yl yq yu M3 F;have MV:=Zr B0.apG λ_ _ F=>aj2 T qb F;have avi:=Zr B0.aoL λ_ _ F=>ai4 T dZ p_ MV F;have yt:=Zr B0.apy λ_ _ F=>ajT T F;have yw:=Zr B0.ap0 λ_ _ F=>akp T F;have M6:=Zr B0.ap1 λ_ _ F=>akq T yw F;have avt:=Zr B0.apC λ_ _ F=>ajY T dZ yt M6 F;have avs:=Zr B0.aps λ_ _ F=>ajN T p_ mh qb F;have MB:=Zr B0.aoS λ_ _ F=>ajb T yw F;have MA:=Zr B0.aoN λ_ _ F=>ai6 T MB dZ F;have avk:=Zr B0.aoO λ_ _ F=>ai7 T MA F;have avp:=Zr B0.apb λ_ _ F=>ajw T mi fA MW F;have MH:=Zr B0.aoZ λ_ _ F=>aji T rY dZ F;have M9:=Zr B0.ap5 λ_ _ F=>aku T F;have avr:=Zr B0.apq λ_ _ F=>ajL T MH dZ M9 F;have yo:=Zr B0.ao8 λ_ _ F=>ajs T F;have MI:=Zr B0.ao7 λ_ _ F=>ajr T yo yx F;have avl:=Zr B0.aoX λ_ _ F=>ajg T p_ mh qb MI F;have avn:=Zr B0.ao2 λ_ _ F=>ajl T mh mi F;have M7:=Zr B0.ap2 λ_ _ F=>akr T F;have MJ:=Zr B0.ao9 λ_ _ F=>ajt T yo yx F;have avv:=Zr B0.ap3 λ_ _ F=>aks T yt mh yr M7 MJ F;have Fz:=Zr B0.ao4 λ_ _ F=>ajn T F;have MD:=Zr B0.aoU λ_ _ F=>ajd T Fz yp F;have MC:=Zr B0.aoT λ_ _ F=>ajc T MS My MD F;have MR:=Zr B0.apt λ_ _ F=>ajO T yr Nb MC Na mi F;have hD:afV K mg A fs:=⟨vf X G B.J7,B.Kv,λn x h=>let⟨f,e,m⟩:=B.NN n x h;⟨f,vf X G e,m⟩⟩;have Ms:∀n x,(n,x)∈oG->∃ps,Zv x ps 17 (iU A n):=λn x h=>by
  unfold oG at h;simp only[aJ,OA,mv,lV]at h;rcases h with⟨rfl,rfl⟩|⟨rfl,rfl⟩|⟨rfl,rfl⟩|⟨rfl,rfl⟩|⟨rfl,rfl⟩|⟨rfl,rfl⟩|⟨rfl,rfl⟩|⟨rfl,rfl⟩|⟨rfl,rfl⟩|⟨rfl,rfl⟩|⟨rfl,rfl⟩|⟨rfl,rfl⟩|⟨rfl,rfl⟩|⟨rfl,rfl⟩<;>exact⟨_,by assumption⟩
 have M5:=Zr B0.apZ λ_ _ F=>ako T hD MR Ms F;exact akn T Ni M4 dZ M5 F
end
open PySem.W (WData Codec OpenSpec)
theorem agM{q P:Program}{w:World}{K:PySem.W.Frag}{h:Heap}{mg:Zy}{fa c:Addr}{A:Ad}{fs:X3}{dr:DefRec}(KX:Vw)(G:Zl0)(pS:ZsE)(B:ZiW)(ht:ZqH)(hn:K.lookup A.tab=none)
  (m5:Zsd):
  ∃(fd:FuncData) (A:Ad) (c:Addr) (dr:DefRec),(∀(s:Shared) (us:Zp),us.length=ka.length->Znn)/\ZeM "can_fill_parts"=some Zge/\K.lookup A.tab=none/\(recsOf q).find? Zd8=some dr/\
   ∀base:Heap,UM->V9->ZeB A.tab->Zfg->ZtC:=by
 have B0:=B.bf;obtain⟨f,fd,i⟩:=B0.apY;have e:=pS.symm.trans (vf KX G i.ns);cases e
 refine⟨fd,_,c,dr,λs us hu=>?_,ht,hn,m5,λbase X G' hC hB=>B.answers X G' ht hC hB i.F⟩;obtain⟨oc,od,kV,doc,pm,an,aG,ct,jl,e,lk,_⟩:=i.F.ex;rw[e];exact .of_eq (arG kV doc pm an aG ct us hu)
theorem agL{q P:Program}{w:World}{K:PySem.W.Frag}{h:Heap}{mg:Zy}{fa:Addr}(KX:Vw)(G:Zl0)(pS:ZsE)(hB:af1 K q):
  ∃(fd:FuncData) (A:Ad) (c:Addr) (dr:DefRec),(∀(s:Shared) (us:Zp),us.length=ka.length->Znn)/\ZeM "can_fill_parts"=some Zge/\K.lookup A.tab=none/\(recsOf q).find? Zd8=some dr/\
   ∀base:Heap,UM->V9->ZeB A.tab->Zfg->ZtC:=
 let⟨_,_,_,_,B,ht,hn,m5⟩:=hB
 agM KX G pS B ht hn m5
theorem agv{r:OpenSpec}{q:Program}{loose:Zc}{XP:(Str->Zad)->Heap->Prop}{YP:World->Heap->Prop}{d:DefRec}{K:Params->PySem.W.Frag}
  (amm:r.wellSaid=true) (hlen:r.args.length=ka.length) (hr:eA 19 callerA) (hY:∀(w:World) (h:Heap),YP w h->(K w.params).In h)
  (F:∀(w:World) (mg:Zy) (fa:Addr) (h:Heap),YP w h->(K w.params).In h->Zl0->mg d.name=some (.ref fa)->
   ∃(fd:FuncData) (A:Ad) (c:Addr) (dr:DefRec),(∀(s:Shared) (us:Zp),us.length=ka.length->Znn)/\PySem.W.tabIn (K w.params) "can_fill_parts"=some Zge/\(K w.params).lookup A.tab=none/\(recsOf q).find? Zd8=some dr/\
    ∀base:Heap,(K w.params).In base->base.Ns mainGlobals mg->PySem.W.CodeHd base c A.tab->BMain mg base->aM r.prog w (K w.params) mg base aP 19 fa fd ka (sW A (K w.params)))
  (oq:∀(K:PySem.W.Frag) (A:Ad) (H:Hp) (xs:Ze) (a:Codec.denoteAll r.args),H A.tab=some Zf5->Codec.withinAll r.args a=true->Codec.app r.args r.asked a=true->kf K H xs (Codec.encAll r.args a)->
   sW A K xs H (λv H'=>Dw K H' v (r.ret.enc (Codec.app r.args r.f a))/\∃iz,H' A.tab=some (.b9 iz)) λ_ _ _=>False):
  PySem.W.WalkOS q loose XP YP r d [] (λf vs=>PySem.call f vs):=by
 intro w gM s₁ mg mb G Y fa o pm cd doc dV kV ho hd lz hD pS hg args vals as jv xT iE me pU;obtain⟨a,e1,e2⟩:=PySem.W.os_pre_some jv;obtain⟨e3,ES⟩:=Codec.encAll_of_decAll r.args args a e1;subst e3;have KX:=hY w _ Y;obtain⟨fd,A,c,dr,hb,ht,hn,m5,hF⟩:=F w mg fa _ Y KX G.T.g pS;obtain⟨hC,hP⟩:=PySem.W.tab_of G.T KX m5 ht;refine PySem.W.enter_call (uZ (aq9 (R:=[]) (cl:=classAt gM.heap) (d0:=r.ret.enc (Codec.app r.args r.f a)) KX G.T.g G.T.b G.T.builtins G.T.nolimit hg me (aag _ _) (alD xT) hr hC hP hn G.T.bmain hF hb (by rw[adC];exact hlen)
  (λH xs hO hS=>oq (K w.params) A H xs a hO ES e2 hS)) λr' s' hq=>?_)
 obtain⟨u,as',rfl,h1,h2,h3,h4⟩:=hq;exact⟨.inl ⟨u,_,as',rfl,λ_=>rfl,h1,(OpenSpec.post_iff amm ES _ _).mpr rfl,λz=>Bool.noConfusion (show false=true from z)⟩,h2,h3,h4⟩
theorem aho{K:PySem.W.Frag}{A:Ad}{H:Hp}{l:ZK}{a:Addr}(hP:H A.tab=some Zf5)(hl:l.length<=16000)(lB:PyVbwbal.answers_asked l=true)(hs:Y2 a VY):
  sW A K [.ref a] H (λv H'=>Dw K H' v (.list ((PyVbwbal.answers l).map WData.int))/\∃iz,H' A.tab=some Zdz) λ_ _ _=>False:=
 ⟨a,l,rfl,hs,hl,lB,⟨#[],hP,trivial,λpos cv e=>ZbC⟩,λH' r hr ht=>⟨.lst (ag.of hr) (adG _),let⟨ps,h,_⟩:=ht;⟨ps,h⟩⟩⟩
end
end
end Br
end
open PySem PySem.W PyProof.Rows
set_option maxRecDepth 100000 in
set_option maxHeartbeats 0 in
theorem PySem.Challenge.cw_batchrecord_s01_answers_holds : PySem.Challenge.rw_batchrecord_s01_answers.Holds := by
  w_on;k_headS;(case hw=>exact⟨[.list []],by decide+kernel,by decide+kernel⟩)
  k_fillS
  refine Br.agv (r:=PySem.Challenge.rw_batchrecord_s01_answers) (by decide+kernel) rfl ⟨rfl,by decide,by decide⟩ (λw h Y=>PySem.W.kIn_of Y) ?F ?S
  case S=>
    intro K A H xs a hP ES lB hx
    cases hx with
    | cons h1 h2=>
      cases h2
      cases h1 with
      | lst hs ha=>
        have e:=L2.ab7 a.1 _ ha
        subst e
        have q:((Codec.inLen 0 16000 a.1&&a.1.all (Codec.inInt (-9223372036854775808) 9223372036854775807))&&true)=true:=ES
        rw[aQ,aQ]at q
        exact Br.aho hP (Codec.inNat_iff.mp q.1.1).2 lB hs
  case F=>
  intro w mg fa h Y KX G pS
  refine Br.agL KX G pS ?_
  refine' Br.arI (Br.PB.mk (Br.a_ (λ_ _ _ _ _ _ us hl=>match us,hl with |[_],_=>rfl) ?_ ?_ ?_ ?_) (Br.a_ (λ_ _ _ _ _ _ us hl=>match us,hl with |[_,_,_],_=>rfl) ?_ ?_ ?_ ?_) (Br.a_ (λ_ _ _ _ _ _ us hl=>match us,hl with |[_,_],_=>rfl) ?_ ?_ ?_ ?_) (Br.a_ (λ_ _ _ _ _ _ us hl=>match us,hl with |[_,_,_,_],_=>rfl) ?_ ?_ ?_ ?_) (Br.a_ (λ_ _ _ _ _ _ us hl=>match us,hl with |[_,_],_=>rfl) ?_ ?_ ?_ ?_) (Br.a_ (λ_ _ _ _ _ _ us hl=>match us,hl with |[_],_=>rfl) ?_ ?_ ?_ ?_) (Br.a_ (λ_ _ _ _ _ _ us hl=>match us,hl with |[_],_=>rfl) ?_ ?_ ?_ ?_) (Br.a_ (λ_ _ _ _ _ _ us hl=>match us,hl with |[_,_,_],_=>rfl) ?_ ?_ ?_ ?_) (Br.a_ (λ_ _ _ _ _ _ us hl=>match us,hl with |[_,_],_=>rfl) ?_ ?_ ?_ ?_) (Br.a_ (λ_ _ _ _ _ _ us hl=>match us,hl with |[_,_,_],_=>rfl) ?_ ?_ ?_ ?_) (Br.a_ (λ_ _ _ _ _ _ us hl=>match us,hl with |[_,_,_],_=>rfl) ?_ ?_ ?_ ?_) (Br.a_ (λ_ _ _ _ _ _ us hl=>match us,hl with |[_],_=>rfl) ?_ ?_ ?_ ?_) (Br.a_ (λ_ _ _ _ _ _ us hl=>match us,hl with |[_,_],_=>rfl) ?_ ?_ ?_ ?_) (Br.a_ (λ_ _ _ _ _ _ us hl=>match us,hl with |[_],_=>rfl) ?_ ?_ ?_ ?_) (Br.a_ (λ_ _ _ _ _ _ us hl=>match us,hl with |[_],_=>rfl) ?_ ?_ ?_ ?_) (Br.a_ (λ_ _ _ _ _ _ us hl=>match us,hl with |[_,_],_=>rfl) ?_ ?_ ?_ ?_) (Br.a_ (λ_ _ _ _ _ _ us hl=>match us,hl with |[_,_],_=>rfl) ?_ ?_ ?_ ?_) (Br.a_ (λ_ _ _ _ _ _ us hl=>match us,hl with |[_,_],_=>rfl) ?_ ?_ ?_ ?_) (Br.a_ (λ_ _ _ _ _ _ us hl=>match us,hl with |[_,_,_,_],_=>rfl) ?_ ?_ ?_ ?_) (Br.a_ (λ_ _ _ _ _ _ us hl=>match us,hl with |[_,_,_,_,_],_=>rfl) ?_ ?_ ?_ ?_) (Br.a_ (λ_ _ _ _ _ _ us hl=>match us,hl with |[_,_,_],_=>rfl) ?_ ?_ ?_ ?_) (Br.a_ (λ_ _ _ _ _ _ us hl=>match us,hl with |[_,_,_],_=>rfl) ?_ ?_ ?_ ?_) (Br.a_ (λ_ _ _ _ _ _ us hl=>match us,hl with |[_,_],_=>rfl) ?_ ?_ ?_ ?_) (Br.a_ (λ_ _ _ _ _ _ us hl=>match us,hl with |[_],_=>rfl) ?_ ?_ ?_ ?_) (Br.a_ (λ_ _ _ _ _ _ us hl=>match us,hl with |[_,_,_],_=>rfl) ?_ ?_ ?_ ?_) (Br.a_ (λ_ _ _ _ _ _ us hl=>match us,hl with |[_,_,_],_=>rfl) ?_ ?_ ?_ ?_) (Br.a_ (λ_ _ _ _ _ _ us hl=>match us,hl with |[_],_=>rfl) ?_ ?_ ?_ ?_) (Br.a_ (λ_ _ _ _ _ _ us hl=>match us,hl with |[_,_],_=>rfl) ?_ ?_ ?_ ?_) (Br.a_ (λ_ _ _ _ _ _ us hl=>match us,hl with |[_],_=>rfl) ?_ ?_ ?_ ?_) (Br.a_ (λ_ _ _ _ _ _ us hl=>match us,hl with |[_,_],_=>rfl) ?_ ?_ ?_ ?_) (Br.a_ (λ_ _ _ _ _ _ us hl=>match us,hl with |[_],_=>rfl) ?_ ?_ ?_ ?_) (Br.a_ (λ_ _ _ _ _ _ us hl=>match us,hl with |[_],_=>rfl) ?_ ?_ ?_ ?_) (Br.a_ (λ_ _ _ _ _ _ us hl=>match us,hl with |[_],_=>rfl) ?_ ?_ ?_ ?_) (Br.a_ (λ_ _ _ _ _ _ us hl=>match us,hl with |[_],_=>rfl) ?_ ?_ ?_ ?_) (Br.a_ (λ_ _ _ _ _ _ us hl=>match us,hl with |[_],_=>rfl) ?_ ?_ ?_ ?_) (Br.a_ (λ_ _ _ _ _ _ us hl=>match us,hl with |[_,_,_,_,_],_=>rfl) ?_ ?_ ?_ ?_) (Br.a_ (λ_ _ _ _ _ _ us hl=>match us,hl with |[_,_],_=>rfl) ?_ ?_ ?_ ?_) (Br.a_ (λ_ _ _ _ _ _ us hl=>match us,hl with |[_,_],_=>rfl) ?_ ?_ ?_ ?_) (Br.a_ (λ_ _ _ _ _ _ us hl=>match us,hl with |[_,_,_],_=>rfl) ?_ ?_ ?_ ?_) (Br.a_ (λ_ _ _ _ _ _ us hl=>match us,hl with |[_,_],_=>rfl) ?_ ?_ ?_ ?_) (Br.a_ (λ_ _ _ _ _ _ us hl=>match us,hl with |[_,_],_=>rfl) ?_ ?_ ?_ ?_) (Br.a_ (λ_ _ _ _ _ _ us hl=>match us,hl with |[_],_=>rfl) ?_ ?_ ?_ ?_) (Br.a_ (λ_ _ _ _ _ _ us hl=>match us,hl with |[_],_=>rfl) ?_ ?_ ?_ ?_) (Br.a_ (λ_ _ _ _ _ _ us hl=>match us,hl with |[_,_],_=>rfl) ?_ ?_ ?_ ?_) (Br.a_ (λ_ _ _ _ _ _ us hl=>match us,hl with |[_,_],_=>rfl) ?_ ?_ ?_ ?_) (Br.a_ (λ_ _ _ _ _ _ us hl=>match us,hl with |[_,_],_=>rfl) ?_ ?_ ?_ ?_) (Br.a_ (λ_ _ _ _ _ _ us hl=>match us,hl with |[_,_],_=>rfl) ?_ ?_ ?_ ?_) (Br.a_ (λ_ _ _ _ _ _ us hl=>match us,hl with |[_],_=>rfl) ?_ ?_ ?_ ?_) (Br.a_ (λ_ _ _ _ _ _ us hl=>match us,hl with |[_],_=>rfl) ?_ ?_ ?_ ?_) (Br.a_ (λ_ _ _ _ _ _ us hl=>match us,hl with |[_,_],_=>rfl) ?_ ?_ ?_ ?_) (Br.a_ (λ_ _ _ _ _ _ us hl=>match us,hl with |[_],_=>rfl) ?_ ?_ ?_ ?_) (Br.a_ (λ_ _ _ _ _ _ us hl=>match us,hl with |[_],_=>rfl) ?_ ?_ ?_ ?_) (Br.a_ (λ_ _ _ _ _ _ us hl=>match us,hl with |[_],_=>rfl) ?_ ?_ ?_ ?_) (Br.a_ (λ_ _ _ _ _ _ us hl=>match us,hl with |[_,_],_=>rfl) ?_ ?_ ?_ ?_) (Br.a_ (λ_ _ _ _ _ _ us hl=>match us,hl with |[_,_],_=>rfl) ?_ ?_ ?_ ?_) (Br.a_ (λ_ _ _ _ _ _ us hl=>match us,hl with |[_,_],_=>rfl) ?_ ?_ ?_ ?_) (Br.a_ (λ_ _ _ _ _ _ us hl=>match us,hl with |[_,_],_=>rfl) ?_ ?_ ?_ ?_) (Br.a_ (λ_ _ _ _ _ _ us hl=>match us,hl with |[_,_],_=>rfl) ?_ ?_ ?_ ?_) (Br.a_ (λ_ _ _ _ _ _ us hl=>match us,hl with |[_,_,_],_=>rfl) ?_ ?_ ?_ ?_) (Br.a_ (λ_ _ _ _ _ _ us hl=>match us,hl with |[_,_],_=>rfl) ?_ ?_ ?_ ?_) (Br.a_ (λ_ _ _ _ _ _ us hl=>match us,hl with |[_,_],_=>rfl) ?_ ?_ ?_ ?_) (Br.a_ (λ_ _ _ _ _ _ us hl=>match us,hl with |[_,_],_=>rfl) ?_ ?_ ?_ ?_) (Br.a_ (λ_ _ _ _ _ _ us hl=>match us,hl with |[_,_],_=>rfl) ?_ ?_ ?_ ?_) (Br.a_ (λ_ _ _ _ _ _ us hl=>match us,hl with |[_,_],_=>rfl) ?_ ?_ ?_ ?_) (Br.a_ (λ_ _ _ _ _ _ us hl=>match us,hl with |[_,_],_=>rfl) ?_ ?_ ?_ ?_) (Br.a_ (λ_ _ _ _ _ _ us hl=>match us,hl with |[_,_],_=>rfl) ?_ ?_ ?_ ?_) (Br.a_ (λ_ _ _ _ _ _ us hl=>match us,hl with |[_,_,_],_=>rfl) ?_ ?_ ?_ ?_) (Br.a_ (λ_ _ _ _ _ _ us hl=>match us,hl with |[_,_],_=>rfl) ?_ ?_ ?_ ?_) (Br.a_ (λ_ _ _ _ _ _ us hl=>match us,hl with |[_,_],_=>rfl) ?_ ?_ ?_ ?_) (Br.a_ (λ_ _ _ _ _ _ us hl=>match us,hl with |[_,_],_=>rfl) ?_ ?_ ?_ ?_) (Br.a_ (λ_ _ _ _ _ _ us hl=>match us,hl with |[_],_=>rfl) ?_ ?_ ?_ ?_) (Br.a_ (λ_ _ _ _ _ _ us hl=>match us,hl with |[_],_=>rfl) ?_ ?_ ?_ ?_) (Br.a_ (λ_ _ _ _ _ _ us hl=>match us,hl with |[_,_],_=>rfl) ?_ ?_ ?_ ?_) (Br.a_ (λ_ _ _ _ _ _ us hl=>match us,hl with |[_,_],_=>rfl) ?_ ?_ ?_ ?_) (Br.a_ (λ_ _ _ _ _ _ us hl=>match us,hl with |[_,_,_],_=>rfl) ?_ ?_ ?_ ?_) (Br.a_ (λ_ _ _ _ _ _ us hl=>match us,hl with |[_,_],_=>rfl) ?_ ?_ ?_ ?_) (Br.a_ (λ_ _ _ _ _ _ us hl=>match us,hl with |[_,_],_=>rfl) ?_ ?_ ?_ ?_) (Br.a_ (λ_ _ _ _ _ _ us hl=>match us,hl with |[_],_=>rfl) ?_ ?_ ?_ ?_) (Br.a_ (λ_ _ _ _ _ _ us hl=>match us,hl with |[_,_,_,_],_=>rfl) ?_ ?_ ?_ ?_) (Br.a_ (λ_ _ _ _ _ _ us hl=>match us,hl with |[_,_],_=>rfl) ?_ ?_ ?_ ?_) (Br.a_ (λ_ _ _ _ _ _ us hl=>match us,hl with |[_,_],_=>rfl) ?_ ?_ ?_ ?_) (Br.a_ (λ_ _ _ _ _ _ us hl=>match us,hl with |[_,_],_=>rfl) ?_ ?_ ?_ ?_) (Br.a_ (λ_ _ _ _ _ _ us hl=>match us,hl with |[_,_],_=>rfl) ?_ ?_ ?_ ?_) (Br.a_ (λ_ _ _ _ _ _ us hl=>match us,hl with |[_,_],_=>rfl) ?_ ?_ ?_ ?_) (Br.a_ (λ_ _ _ _ _ _ us hl=>match us,hl with |[_,_],_=>rfl) ?_ ?_ ?_ ?_) (Br.a_ (λ_ _ _ _ _ _ us hl=>match us,hl with |[_],_=>rfl) ?_ ?_ ?_ ?_) (Br.jm ?_) (Br.jm ?_) (Br.jm ?_) (Br.jm ?_) (Br.jm ?_) (Br.jm ?_) (Br.jm ?_) (Br.jm ?_) (Br.jm ?_) (Br.jm ?_) (Br.jm ?_) (Br.jm ?_) (Br.jm ?_) (Br.jm ?_) (Br.jm ?_) (Br.jm ?_) (Br.cK ?_) (Br.cK ?_) (Br.cK ?_) (Br.cK ?_) (Br.cK ?_) (Br.cK ?_) (Br.cK ?_) (Br.cK ?_) (Br.cK ?_) (Br.cK ?_) (Br.cK ?_) (Br.cK ?_) (Br.cK ?_) (Br.cK ?_) (Br.cK ?_) (Br.cK ?_) (Br.cK ?_) (Br.cK ?_) (Br.cK ?_) (Br.cK ?_) (Br.cK ?_) (Br.cK ?_) (Br.cK ?_) (Br.cK ?_) (Br.cK ?_) (Br.cK ?_) (Br.cK ?_) (Br.cK ?_) (Br.cK ?_) (Br.cK ?_) (Br.cK ?_) (Br.cK ?_) (Br.cK ?_) (Br.cK ?_) (Br.cK ?_) (Br.cK ?_) (Br.cK ?_) (Br.cK ?_) (Br.cK ?_) (Br.cK ?_) (Br.aaP ?_) (Br.aaP ?_)) (Br.yI (λ_ _ _ _ _ _ us hl=>match us,hl with |[_],_=>rfl) ?_ ?_ ?_ ?_ ?_ ?_ ?_ ?_ ?_ ?_ ?_ ?_ (Br.gh ?_ (Br.gh ?_ (Br.gh ?_ (Br.gh ?_ (Br.gh ?_ (Br.gh ?_ (Br.gh ?_ Br.xk)))))))) (Br.yI (λ_ _ _ _ _ _ us hl=>match us,hl with |[_,_,_],_=>rfl) ?_ ?_ ?_ ?_ ?_ ?_ ?_ ?_ ?_ ?_ ?_ ?_ (Br.gh ?_ (Br.gh ?_ Br.xk))) (Br.yI (λ_ _ _ _ _ _ us hl=>match us,hl with |[_,_,_,_,_],_=>rfl) ?_ ?_ ?_ ?_ ?_ ?_ ?_ ?_ ?_ ?_ ?_ ?_ (Br.gh ?_ (Br.gh ?_ (Br.gh ?_ (Br.gh ?_ Br.xk))))) (Br.yI (λ_ _ _ _ _ _ us hl=>match us,hl with |[_,_],_=>rfl) ?_ ?_ ?_ ?_ ?_ ?_ ?_ ?_ ?_ ?_ ?_ ?_ (Br.gh ?_ (Br.gh ?_ (Br.gh ?_ (Br.gh ?_ Br.xk))))) (Br.yI (λ_ _ _ _ _ _ us hl=>match us,hl with |[_],_=>rfl) ?_ ?_ ?_ ?_ ?_ ?_ ?_ ?_ ?_ ?_ ?_ ?_ (Br.gh ?_ Br.xk)) (Br.yI (λ_ _ _ _ _ _ us hl=>match us,hl with |[_,_,_,_,_],_=>rfl) ?_ ?_ ?_ ?_ ?_ ?_ ?_ ?_ ?_ ?_ ?_ ?_ (Br.gh ?_ (Br.gh ?_ (Br.gh ?_ (Br.gh ?_ Br.xk))))) ?_ (Br.Qz ?_ ?nc1 ?nc2 ?nc3 ?nc4) ?_ (Br.Qz ?_ ?pw1 ?pw2 ?pw3 ?pw4) ?_ (Br.aiZ ?_ ?on1 ?on2 ?on3 ?on4) (Br.aqj ?_ ?_ ?_ ?_ ?_ ?_ ?_ ?_ ?_ ?_ ?_ ?_ ?_ ?_) ?ht ?hn ?m5
  all_goals try k_is
  (case nc1=>rfl);(case nc2=>rfl);(case nc3=>decide);(case nc4=>exact .cons ⟨_,rfl⟩ (.cons ⟨_,rfl⟩ (.cons ⟨_,rfl⟩ (.cons ⟨_,rfl⟩ (.cons ⟨_,rfl⟩ (.cons ⟨_,rfl⟩ (.cons ⟨_,rfl⟩ (.cons ⟨_,rfl⟩ (.cons ⟨_,rfl⟩ (.cons ⟨_,rfl⟩ (.cons ⟨_,rfl⟩ (.cons ⟨_,rfl⟩ (.cons ⟨_,rfl⟩ (.cons ⟨_,rfl⟩ (.cons ⟨_,rfl⟩ .nil)))))))))))))))
  (case pw1=>rfl);(case pw2=>rfl);(case pw3=>decide);(case pw4=>exact .cons ⟨_,rfl⟩ (.cons ⟨_,rfl⟩ (.cons ⟨_,rfl⟩ .nil)))
  (case on1=>exact⟨rfl,rfl,rfl⟩);(case on2=>rfl);(case on3=>exact .cons ⟨rfl,⟨_,rfl⟩,rfl⟩ (.cons ⟨rfl,⟨_,rfl⟩,rfl⟩ (.cons ⟨rfl,⟨_,rfl⟩,rfl⟩ (.cons ⟨rfl,⟨_,rfl⟩,rfl⟩ (.cons ⟨rfl,⟨_,rfl⟩,rfl⟩ (.cons ⟨rfl,⟨_,rfl⟩,rfl⟩ (.cons ⟨rfl,⟨_,rfl⟩,rfl⟩ (.cons ⟨rfl,⟨_,rfl⟩,rfl⟩ (.cons ⟨rfl,⟨_,rfl⟩,rfl⟩ (.cons ⟨rfl,⟨_,rfl⟩,rfl⟩ (.cons ⟨rfl,⟨_,rfl⟩,rfl⟩ (.cons ⟨rfl,⟨_,rfl⟩,rfl⟩ (.cons ⟨rfl,⟨_,rfl⟩,rfl⟩ (.cons ⟨rfl,⟨_,rfl⟩,rfl⟩ .nil))))))))))))));(case on4=>decide)
  (case ht=>rfl);(case hn=>kernel_rfl);(case m5=>rfl)

