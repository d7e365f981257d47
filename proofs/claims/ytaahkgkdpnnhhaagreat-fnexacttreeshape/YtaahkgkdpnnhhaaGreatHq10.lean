import Derived.Test.YtaahkgkdpnnhhaaGreatHq8
set_option maxHeartbeats 9999999
set_option maxRecDepth 99999
set_option linter.all false
namespace Go.Proofs.YtaahkgkdpnnhhaaGreat
open Go.RowKit Fo
variable{A:Adr}{K:Int}{b:Nat}{f:fZ}
theorem aER{d:Nd}(h:f.nodes b=some d):setN f b d=f:=by
 have:upd f.nodes b (some d)=f.nodes:=funext fun x=>by by_cases e:x=b<;>simp[upd,e,h]
 unfold setN;rw[this]
theorem qV(W:World)(k0 v0:ByteArray)(c0:Int):(Instr.buildSlice 106 1 #[(0,.agg #[.string k0,.string v0,.int .i64 c0])]).run Tryz.prog W=.ok (.slice (some ⟨W.heap.size,0,none⟩) 1 1) (W.alloc (.cells #[.string k0,.string v0,.int .i64 c0] 110)):=by kernel_rfl
theorem St.ins{w w1:World}{ρ:Nat→Nat}{P:Nat}{J:List aQ}(h:St w ρ P A f J){q:Nat}{k:Int}{es ls:List E3}(hb:f.nodes b=some (k,es))(hφ:A.φ b=some q){u:Value}(hI:xO w w1 (A.α b) u ls):
  ∃a',(∃g,a'=some g)∧St (w1.setCell ⟨q,1,none⟩ u) (jC ρ a' b) P (dO A b a') (setN f b (k,ls)) J∧Mv (fun _=>False) w ρ (w1.setCell ⟨q,1,none⟩ u) (jC ρ a' b)∧(∃c,w1.cell? ⟨q,1,none⟩=some c)∧w1.frozen? ⟨q,1,none⟩=false:=by
 obtain⟨⟨a',junk',rfl,h1,h2,h3⟩,hF⟩:=hI;obtain⟨q',junk,e1,e2,e3,e4⟩:=h.getNode hb;rw[hφ]at e1;cases e1;have qt:IsC w1 q _ _:=e4.box.frm hF (fun e=>(e4.arr q e).2 rfl);have av:∀g,a'=some g→g≠q:=fun g e=>by
  rcases(h1 g e).2 with e' | e'
  ·exact(e4.arr g e').2
  ·have:=e4.box.lt;omega
 have du:Frm (fun x=>x=q∨A.α b=some x) w (w1.setCell ⟨q,1,none⟩ (.slice (adr a') ls.length (ls.length+junk'.length))):=(hF.wide fun x _ e=>.inr e).trans (Frm.set w1 (p:=⟨q,1,none⟩) (.inl rfl) _);have hN:aM (w1.setCell ⟨q,1,none⟩ (.slice (adr a') ls.length (ls.length+junk'.length))) q (k,ls) a' junk':=by
  refine⟨?_,fun g e=>⟨(h1 g e).1.set_ne _ (av g e),av g e⟩,fun e=>absurd e h2,h3⟩;have:=qt.set 1 (.slice (adr a') ls.length (ls.length+junk'.length));simpa using this
 have:=h.node hb hφ du hN (fun g e=>(h1 g e).2)
 refine⟨a',?_,this.1,this.2,⟨_,qt.c rfl⟩,qt.frozen 1⟩;cases a' with
 | none=>exact absurd rfl h2
 | some g=>exact⟨g,rfl⟩
structure DnP(w:World)(ρ:Nat→Nat)(P:Nat)(A:Adr)(f:fZ)(J:List aQ)(b:Nat)(key:ByteArray)(K:Int)(e:Ending)(w':World):Prop where
 no:stepDown f b key=none→Pk 13 w ρ P f J e w'
 yes:∀g c,stepDown f b key=some (g,c)→∃ρ' A' J' q,e=.returned (.pointer (some ⟨q,0,none⟩))∧A'.φ c=some q∧Dn 13 (fun _=>True) w ρ P A f J w' ρ' A' g J'∧Tch c J'∧Sz (K+10) g
theorem AdS.top{X:Nat→Prop}{A':Adr}(h:AdS X A A'):AdS (fun _=>True) A A':=h.up fun _ _=>trivial
theorem zU(w:World)(ρ:Nat→Nat)(P:Nat)(A:Adr)(f:fZ)(J:List aQ)(t H:Nat)(Pt:List Nat)(b h:Nat)(lo hi:OB)(key:ByteArray)(q:Nat)(sd:St w ρ P A f J)(hW:Wk f t H)(hp:aN f t H Pt b (h+1) lo hi)(pq:loR lo key)(h5:sz f.nodes b<5)(hφ:A.φ b=some q)(hz:Sz K f)(td:1≤K)(hK:K≤700000)(kz:J.length≤600000)(qw:Tch b J):
  Calls Tryz.prog 118 #[.pointer (some ⟨P,0,none⟩),.pointer (some ⟨q,0,none⟩),.string key] w (DnP w ρ P A f J b key K):=by
 obtain⟨es,af,qg,av⟩:=hp.inner hW;have h0:0<es.length:=List.length_pos_iff.2 av;have Af:es.length<5:=by unfold sz at h5;rw[af]at h5;exact h5
 obtain⟨w1,p1,-⟩:=hW.lowKey hp af key pq;have d5:b<f.cur.length:=hz.lt b _ af;obtain⟨q',junk,e1,wn,wl,hN⟩:=sd.getNode af;rw[hφ]at e1;cases e1;obtain⟨g,hg⟩:=hN.arrOf h0;rw[hg]at hN;obtain⟨f1,f2⟩:=hN.first rfl rfl h0;simp only at f1 f2;obtain⟨es1,FM⟩:=exH (lowK es key);have d8:es1.length=es.length:=by rw[FM.out];exact cK es key
 have lv:es1≠[]:=fun e=>av (List.length_eq_zero_iff.1 (by rw[←d8,e];rfl));rw[←FM.out]at w1 p1;have ep:(setN f b (2,es1)).nodes b=some (2,es1):=aD _ _ _;obtain⟨_,q1,ye,_⟩:=p1.inner w1;rw[ep]at q1;cases q1;have je:bK es1 key<es1.length:=eE key lv;have fz:Sz K (setN f b (2,es1)):=hz.setN d5 (by simp only;omega);have HD:Hid (stepDown f b key=match shadow (setN f b (2,es1)) (.ent b (bK es1 key))with
  | none=>none
  | some (g,c)=>
   if(Fo.look g c).2.length=5 then
    if aF g=0 then none else
     some (splitF g b (Fo.look g b).2 (bK es1 key) c (Fo.look g c).1 (Fo.look g c).2 3 (aF g) (ky (Fo.look g c).2 3),if kl key (ky (Fo.look g c).2 3)=true then c else aF g)
   else some (g,c)):=by
  show stepDown f b key=_
  unfold stepDown;rw[aE af,FM.out];rfl
 have Gm:=iT;have lk:=qV;have HL:=aA d8;have WL:=(hN.arr g rfl).1.frozen 0;have Mh:((bK es1 key:Nat):Int) <(es1.length:Int):=by omega
 have Sj:0 <(es.length:Int):=by omega
 have lq:es.length+junk.length≤maxLen:=hN.small;go_enter Tryz.func118,Tryz.ntmps118;by_cases mx:kl key (ky es 0)=true
 case' pos=>
  have ai:Op.bytesLess key.toList (ky es 0).toList=true:=mx;have gx:es1=es.set 0 (key,(es.getD 0 e0).2):=by rw[FM.out];unfold lowK;rw[if_pos mx]
  have yv:aM (w.setCell ⟨g,0,none⟩ (.string key)) q (2,es1) (some g) junk:=by
   have:=hN.setc (i:=0) (j:=0) (v:=.string key) (e':=(key,(es.getD 0 e0).2)) h0 (by omega) (by simp[aJ])
   rw[gx];simpa using this
  obtain⟨br,DJ⟩:=sd.nodeSame (w':=w.setCell ⟨g,0,none⟩ (.string key)) af hφ (Frm.set w (p:=⟨g,0,none⟩) (.inr hg) _) (by rw[hg];exact yv);clear mx gx d8;go_wp2_with fail;refine(gX q (2,es1) (some g) junk key _ yv ye.srt (by have:=HL.out;simp only;omega)).mono ?_;rintro e w2 ⟨rfl,cx⟩
 case' neg=>
  have ai:Op.bytesLess key.toList (ky es 0).toList=false:=Bool.eq_false_iff.2 (show ¬Op.bytesLess key.toList (ky es 0).toList=true from mx);have gx:es1=es:=by rw[FM.out];unfold lowK;rw[if_neg mx]
  have yv:aM w q (2,es1) (some g) junk:=by rw[gx];exact hN
  have br:St w ρ P A (setN f b (2,es1)) J:=by rw[gx,aER af];exact sd
  have DJ:Mv (fun _=>False) w ρ w ρ:=Mv.refl _ _ _;clear mx gx d8;go_wp2_with fail;refine(gX q (2,es1) (some g) junk key _ yv ye.srt (by have:=HL.out;simp only;omega)).mono ?_;rintro e w2 ⟨rfl,cx⟩
 all_goals (
  have ax:=br.below cx;have lh:Mv (fun _=>False) w ρ w2 ρ:=DJ.trans (Mv.of_below cx) (fun _ _ e=>e);have sc:=yv.below cx;clear br DJ yv cx;have c2:w2.cell? ⟨q,1,none⟩=some (.slice (some ⟨g,0,none⟩) es1.length (es1.length+junk.length)):=by rw[sc.box.cell];rfl
  have ot:JS 0 f J (setN f b (2,es1)) J:=JS.setN _ qw;clear f1 f2 hN;generalize hI:bK es1 key=i at *;have BL:dR (setN f b (2,es1)) (.ent b i):=⟨d5,es1,ep,je⟩;have BK:gV A (.ent b i) ⟨g,i*3+2,none⟩:=⟨g,hg,rfl⟩;go_wp2_with fail;refine(iI w2 ρ P A (setN f b (2,es1)) J (.ent b i) ⟨g,i*3+2,none⟩ ax w1.ic fz td (by omega) (by omega) BL BK (fun b' i' e=>by cases e;exact qw)).mono ?_;intro e w3 hT;cases al:shadow (setN f b (2,es1)) (.ent b i)with
  | none=>
   obtain⟨rfl,ρ3,A3,g3,J3,a1,a2,a3⟩:=hT.no al;have kv:stepDown f b key=none:=by rw[HD.out,al]
   exact⟨rfl,fun _=>⟨rfl,ρ3,A3,g3,J3,a1,lh.trans a2 (fun _ _ e=>e),(ot.trans a3).up (by omega)⟩,fun g c bp=>by rw[kv]at bp;cases bp⟩
  | some gc=>
   obtain⟨g1,c⟩:=gc;obtain⟨ρ3,A3,J3,q3,rfl,Ay,bh,CL,vn⟩:=hT.yes g1 c al;obtain⟨w2',p2,p3,⟨es2,m1,m2,m3,m4⟩,m5,m6,m7,m8,m9⟩:=w1.shadow_ent p1 ep je al;obtain⟨⟨kc,ces⟩,hd⟩:=w2'.ic.live (x:=c) (by rw[m6];omega);have au:ces.length≤5:=by
    obtain⟨d',d1,_,d2,_⟩:=((p3.ok w2'.ok).1).sz_pos;rw[hd]at d1;cases d1;exact d2
   have ms:b≠c:=fun e=>by
    have hk:c∈kids (2,es2):=by rw[←m4];exact aP (by rw[m2];exact je)
    rw[←e]at hk;exact w2'.ic.not_self m1 hk
   obtain⟨q3',junk3,e1,UH,Nh,q7⟩:=bh.st.getNode hd;rw[Ay]at e1;cases e1;have Ca:Hid (stepDown f b key=if ces.length=5 then if aF g1=0 then none else some (splitF g1 b es2 i c kc ces 3 (aF g1) (ky ces 3),if kl key (ky ces 3)=true then c else aF g1)else some (g1,c)):=by
    have:=HD.out
    rw[al]at this;simp only[aE hd,aE m1]at this;exact this
   clear HD;have ci:Dn 12 (fun _=>True) w ρ P A f J w3 ρ3 A3 g1 J3:=⟨bh.st,lh.trans bh.mv (fun _ _ e=>e),(ot.trans bh.js).up (by omega),bh.ad.top⟩;by_cases hf5:ces.length=5
   ·have we:¬(b=c∨b=bI (setN f b (2,es1)) (.ent b i)):=fun e=>by
     rcases e with e | e
     ·exact ms e
     ·have hk:bI (setN f b (2,es1)) (.ent b i)∈kids (2,es1):=by simp only[bI,aE ep];exact gM je
      rw[←e]at hk;exact w1.ic.not_self ep hk
    have GW:A3.φ b=some q:=by rw[bh.ad.φ b we];exact hφ
    have R9:A3.α b=some g:=by rw[bh.ad.α b we];exact hg
    have HM:=aA (aI m2 (aI m4 au));obtain⟨gc,bp⟩:=q7.arrOf (by simp only;omega);rw[bp]at q7;have AG:decide (ces.length=5)=true:=by simpa using hf5
    have H5:=aA hf5;clear hf5 m2 m4 au hT;go_wp2_with fail;refine(nF q3 (kc,ces) _ junk3 _ q7).mono ?_;rintro e w4 ⟨rfl,cn⟩;rw[cn];clear cn w4;go_wp2_with fail;refine(oH q3 gc kc ces junk3 _ q7 (by have:=H5.out;omega) (by have:=H5.out;omega)).mono ?_;rintro e w4 ⟨q1,a1,j1,junk4,rfl,k1,k2,k3,k4,kF⟩;rw[show ces.length-2=3 by have:=H5.out;omega]at k3 k4;have kF':Frm (fun x=>x=q3∨A3.α c=some x) w3 w4:=kF.wide fun x _ e=>by rcases e with e | e;exact .inl e;right;rw[bp,e]
    obtain⟨aw,Ak⟩:=bh.st.nodeSame hd Ay kF' (by rw[bp];exact k4);have FJ:∀x,w3.heap.size≤x→ρ3 x=0:=fun x hx=>Nat.eq_zero_of_not_pos fun q=>by
     obtain⟨_,_,_,iu,_⟩:=id bh.st;exact absurd (iu.own x (by omega)) (by omega)
    have QW:c<g1.cur.length:=vn.lt c _ hd;have i9:Sz (K+10) (setN g1 c (kc,ces.take 3)):=vn.setN QW (by simp;omega);have CG:JS 0 g1 J3 (setN g1 c (kc,ces.take 3)) J3:=JS.setN _ CL;obtain⟨ga,wg⟩:=k3.arrOf (by have:=H5.out;simp;omega);subst wg;have wg:w3.heap.size≤ga:=k2 ga rfl;have jq:(setN g1 c (kc,ces.take 3)).nodes b=some (2,es2):=(aC _ _ ms).trans m1;obtain⟨q',junk5,e1,Xq,Xr,iy⟩:=aw.getNode jq;rw[GW]at e1;cases e1;rw[R9]at iy;have SD:ρ3 g=cB b:=Xr g R9;obtain⟨c1,c2'⟩:=k3.first rfl (n:=2) (by have:=H5.out;simp;omega) (by omega);have ek1:ky (ces.drop 3) 0=ky ces 3:=by unfold ky;simp[gD]
    rw[ek1]at c2';have Br:w4.cell? ⟨q,1,none⟩=some (.slice (some ⟨g,0,none⟩) es2.length (es2.length+junk5.length)):=by rw[iy.box.cell];rfl
    obtain⟨i1,r9⟩:=exH (i+1);have wj:IntKind.i64.wrap ((i:Int)+1)=(i1:Int):=by
     have:=r9.out
     rw[IntWalk.i64_in _ ⟨by omega,by have:=HL.out;omega⟩];omega
    obtain⟨y1,U1⟩:=exH (ky ces 3);rw[←U1.out]at c2' Ca;have HC:=aA (aI ai (aI m5 (aI m6 m7)));clear ai ek1 m5 m6 m7 q7 k4 kF kF' AG c2;go_wp2;have de:w4.drew.cell? ⟨q,1,none⟩=some (.slice (some ⟨g,0,none⟩) es2.length (es2.length+junk5.length)):=Br;have ak:=de;clear de c1 c2';refine aZ (fun W=>W.cell? ⟨q,1,none⟩=some (.slice (some ⟨g,0,none⟩) es2.length (es2.length+junk5.length))) 16 (by kernel_rfl) ?_;refine tJ 0 52 (.pointer (some ⟨q,0,none⟩)) rfl ak ?_ (fun w' hw=>by obtain m1:=hw;go_simp;try rfl);simp only[Act.put,sB,sZ,sS];refine tJ 1 53 (.pointer (some ⟨q,0,none⟩)) rfl ak ?_ (fun w' hw=>by obtain m1:=hw;go_simp;try rfl);simp only[Act.put,sB,sZ,sS];refine tJ 2 54 (.pointer (some ⟨q,0,none⟩)) rfl ak ?_ (fun w' hw=>by obtain m1:=hw;go_simp;try rfl);simp only[Act.put,sB,sZ,sS];refine tJ 3 55 (.pointer (some ⟨q,1,none⟩)) rfl ak ?_ (fun w' hw=>by obtain m1:=hw;go_simp;try rfl);simp only[Act.put,sB,sZ,sS];refine tJ 4 56 (.slice (some ⟨g,0,none⟩) es2.length (es2.length+junk5.length)) rfl ak ?_ (fun w' hw=>by obtain m1:=hw;go_simp;try rfl);simp only[Act.put,sB,sZ,sS];refine tJ 5 57 (.int .i64 i) rfl ak ?_ (fun w' hw=>by obtain m1:=hw;go_simp;try rfl);simp only[Act.put,sB,sZ,sS];refine tJ 6 58 (.int .i64 i1) rfl ak ?_ (fun w' hw=>by obtain m1:=hw;go_simp;try rfl);simp only[Act.put,sB,sZ,sS];refine tJ 7 59 (.string y1) rfl ak ?_ (fun w' hw=>by obtain m1:=hw;go_simp;try rfl);simp only[Act.put,sB,sZ,sS];refine tJ 8 60 (.pointer (some ⟨P,0,none⟩)) rfl ak ?_ (fun w' hw=>by obtain m1:=hw;go_simp;try rfl);simp only[Act.put,sB,sZ,sS];refine tJ 9 61 (.pointer (some ⟨q1,0,none⟩)) rfl ak ?_ (fun w' hw=>by obtain m1:=hw;go_simp;try rfl);simp only[Act.put,sB,sZ,sS];have tu:Bl w4 w4.drew:=(bQ w4.heap.size w4).drew;have Ib:=aw.below tu;refine oE 10 rfl fun K2 ae=>?_;go_simp;refine(oM w4.drew ρ3 P A3 (setN g1 c (kc,ces.take 3)) J3 q1 (kc,ces.drop 3) (some ga) j1 Ib i9 (by omega) (by have:=bh.js.len;omega) (k3.below tu) (FJ q1 k1) (fun x e=>by cases e;exact FJ ga wg)).mono ?_;intro e w5 hT;have Au:aF (setN g1 c (kc,ces.take 3))=aF g1:=rfl;by_cases hl:aF g1=0
    ·obtain⟨rfl,qy⟩:=hT.no hl
     have kv:stepDown f b key=none:=by rw[Ca.out,if_pos H5.out,if_pos hl]
     exact⟨rfl,fun _=>⟨rfl,ρ3,A3,_,J3,Ib.below qy,((ci.mv.trans Ak (fun _ _ e=>e)).trans (Mv.of_below tu) (fun _ _ e=>e)).trans (Mv.of_below qy) (fun _ _ e=>e),(ci.js.trans CG).up (by omega)⟩,fun g c bp=>by rw[kv]at bp;cases bp⟩
    ·obtain⟨he,ρ5,cw,ng,el⟩:=hT.yes hl
     rw[Au]at he cw;subst he;have fq:stepDown f b key=some (splitF g1 b es2 i c kc ces 3 (aF g1) y1,if kl key y1=true then c else aF g1):=by rw[Ca.out,if_pos H5.out,if_neg hl]
     obtain⟨l1,l2,l3,l4⟩:=aR hl;have OY:g1.nodes (aF g1)=none:=(w2'.ic.dom.dead _).2 l3;generalize aF g1=z at *;have DN:b≠z:=fun e=>by rw[e,OY]at m1;cases m1
     have xl:c≠z:=fun e=>by rw[e,OY]at hd;cases hd
     have Et:JS 1 g1 J3 (takeAt (setN g1 c (kc,ces.take 3)) z (kc,ces.drop 3)) (J3++[(z,cu (setN g1 c (kc,ces.take 3)) z,(setN g1 c (kc,ces.take 3)).nodes z)]):=(CG.trans (JS.save l2)).trans (JS.takeAt _ Tch.saved);have MD:Tch z (J3++[(z,cu (setN g1 c (kc,ces.take 3)) z,(setN g1 c (kc,ces.take 3)).nodes z)]):=Tch.saved;generalize J3++[(z,cu (setN g1 c (kc,ces.take 3)) z,(setN g1 c (kc,ces.take 3)).nodes z)]=J5 at *;have Dl:Mv (fun _=>False) w ρ w5 ρ5:=((((ci.mv.trans Ak (fun _ _ e=>e)).trans (Mv.of_below tu) (fun _ _ e=>e)).up (Y:=fun x=>x=q1∨some ga=some x) (fun _ _ e=>e.elim)).trans ng (fun _ _ e=>e)).up fun x hx e=>by
      have:=ci.mv.frm.size
      rcases e with e | e
      ·omega
      ·cases e;omega
     have av:∀x,(x=cE b∨x=cB b)→¬(x=1∨x=6∨x=3∨x=4):=fun x e=>by unfold cE cB at e;omega
     have Fb:aM w5 q (2,es2) (some g) junk5:=(iy.below tu).frm el (by rw[Xq];exact av _ (.inl rfl)) (fun x e=>by cases e;rw[SD];exact av _ (.inr rfl));have ly:w5.cell? ⟨q,1,none⟩=some (.slice (some ⟨g,0,none⟩) es2.length (es2.length+junk5.length)):=by rw[Fb.box.cell];rfl
     refine ae _ _ (fun _=>ly) ?_;clear ae K2 ak hT;refine oE 11 rfl fun K2 ae=>?_;go_simp;refine ae _ _ (fun _=>ly) ?_;clear ae K2;refine oE 12 rfl fun K2 ae=>?_;go_simp;obtain⟨G6,zn⟩:=exH (w5.heap.size);obtain⟨W6,BA⟩:=exH (w5.alloc (.cells #[.string y1,.string ⟨#[]⟩,.int .i64 z] 110));rw[←BA.out,←zn.out];have yw:IsC W6 G6 (bW [(y1,.empty,(z:Int))]) 110:=by rw[BA.out,zn.out];exact IsC.new _ _ _
     have sb:Bl w5 W6:=by rw[BA.out];exact(bQ w5.heap.size w5).alloc (nR _) _
     have Lq:g≠G6:=by rw[zn.out];exact Nat.ne_of_lt (Fb.arr g rfl).1.lt
     have ny:=Fb.below sb;have vm:W6.cell? ⟨q,1,none⟩=some (.slice (some ⟨g,0,none⟩) es2.length (es2.length+junk5.length)):=by rw[ny.box.cell];rfl
     refine ae _ _ (fun _=>vm) ?_;clear ae K2 ly;have la:=cw.below sb;have AK:i<es2.length:=by rw[HM.out.1];exact je
     have kj:(takeAt (setN g1 c (kc,ces.take 3)) z (kc,ces.drop 3)).nodes b=some (2,es2):=(aC _ _ DN).trans jq;have Ob:(cV A3 z q1 (some ga)).φ b=some q:=(aC _ _ DN).trans GW;have Xm:(cV A3 z q1 (some ga)).α b=some g:=(aC _ _ DN).trans R9;refine oE 13 rfl fun K2 ae=>?_;go_simp;refine(jU (some g) es2 junk5 [(y1,.empty,(z:Int))] (some ⟨G6,0,none⟩) 1 i1 W6 (fun x e=>by cases e;exact(ny.arr g rfl).1) (fun e=>by cases e) (.inr ⟨G6,0,1,[(y1,.empty,(z:Int))],rfl,yw,by simp,by simp⟩) (fun gv o n c e e'=>by cases e;cases e';exact Lq rfl) (by rw[r9.out];omega) (by simp) (by have:=HM.out.1;have:=HL.out;simp;omega) ny.small).mono ?_;rintro e w7 ⟨u,rfl,eS⟩;obtain⟨ua,un,uc,rfl⟩:∃ua un uc,u=.slice ua un uc:=by obtain⟨⟨a',j',e,_⟩,_⟩:=eS;exact⟨_,_,_,e⟩
     have nn:w7.cell? ⟨q,1,none⟩=some (.slice (some ⟨g,0,none⟩) es2.length (es2.length+junk5.length)):=(dB (eS.frm.block q ny.box.lt (fun e=>(ny.arr q e).2 rfl)) 1).trans vm;obtain⟨a',-,ni,Al,-,vy⟩:=la.ins (w1:=w7) (u:=.slice ua un uc) kj Ob (by rw[Xm];exact eS);have Jw:es2.take i1++[(y1,.empty,(z:Int))]++es2.drop i1=insE es2 (i+1) (y1,.empty,(z:Int)):=by rw[r9.out];simp[insE]
     rw[Jw]at ni;have kw:setN (takeAt (setN g1 c (kc,ces.take 3)) z (kc,ces.drop 3)) b (2,insE es2 (i+1) (y1,.empty,(z:Int)))=splitF g1 b es2 i c kc ces 3 z y1:=rfl;rw[kw]at ni;have ED:b <(takeAt (setN g1 c (kc,ces.take 3)) z (kc,ces.drop 3)).cur.length:=by
      have:b<g1.cur.length:=vn.lt b _ m1
      simpa [takeAt,setN] using this
     have Aw:Sz (K+10) (splitF g1 b es2 i c kc ces 3 z y1):=(i9.takeAt (by omega) l2 (by have:=H5.out;simp;omega)).setN ED (by have:=HM.out.1;have:=HL.out;simp only[insE,lP,List.length_take,List.length_cons,List.length_drop];omega);have S2:JS 13 f J (splitF g1 b es2 i c kc ces 3 z y1) J5:=((ci.js.trans Et).trans (JS.setN _ (Et.tch b (bh.js.tch b qw)))).up (by omega);have Dw:Tch c J5:=Et.tch c CL;have CZ:(dO (cV A3 z q1 (some ga)) b a').φ c=some q3:=(aC _ _ xl).trans Ay;have Xt:(dO (cV A3 z q1 (some ga)) b a').φ z=some q1:=aD _ _ _;have Sr:AdS (fun _=>True) A (dO (cV A3 z q1 (some ga)) b a'):=(ci.ad.trans ((AdS.put A3 z q1 (some ga)).trans (AdS.arr _ b a'))).up fun _ _=>trivial;have HF:=aA (show Dn 13 (fun _=>True) w ρ P A f J (w7.setCell ⟨q,1,none⟩ (.slice ua un uc)) (jC ρ5 a' b) (dO (cV A3 z q1 (some ga)) b a') (splitF g1 b es2 i c kc ces 3 z y1) J5 from⟨ni,(Dl.trans (Mv.of_below sb) (fun _ _ e=>e)).trans Al (fun _ _ e=>e),S2,Sr⟩);have HY:=aA (aI fq (aI Dw (aI MD Aw)));refine ae _ _ (fun _=>nn) ?_;clear ae K2 vm fq Dw MD Aw Sr S2 ni Al kw Jw la cw Dl ng el Ib aw Ak ci bh Et CG Ca eS ny iy Fb yw i9 vn;refine oE 14 rfl fun K2 ae=>?_;go_simp;refine ae _ _ (fun _=>nn) ?_;clear ae K2;refine oE 15 rfl fun K2 ae=>?_;go_simp;refine ae _ _ (fun _=>nn) ?_;clear ae K2;refine oE 16 rfl fun K2 ae=>?_;go_simp;refine ae _ _ (fun q=>absurd rfl q) ?_;clear ae K2;refine aS (by kernel_rfl) ?_ _;by_cases hk:kl key y1=true
     ·have RO:Op.bytesLess key.toList y1.toList=true:=hk
      have HK:=aA hk;clear hk;go_wp2;go_ret;obtain⟨fq,Dw,MD,Aw⟩:=HY.out;rw[if_pos HK.out]at fq;refine⟨fun q=>(by rw[fq]at q;cases q),fun g' c' bp=>?_⟩;rw[fq]at bp;cases bp;exact⟨_,_,J5,q3,rfl,CZ,HF.out,Dw,Aw⟩
     ·have RO:Op.bytesLess key.toList y1.toList=false:=Bool.eq_false_iff.2 (show ¬Op.bytesLess key.toList y1.toList=true from hk)
      have HK:=aA hk;clear hk;go_wp2;go_ret;obtain⟨fq,Dw,MD,Aw⟩:=HY.out;rw[if_neg HK.out]at fq;refine⟨fun q=>(by rw[fq]at q;cases q),fun g' c' bp=>?_⟩;rw[fq]at bp;cases bp;exact⟨_,_,J5,q1,rfl,Xt,HF.out,MD,Aw⟩
   ·have AG:decide (ces.length=5)=false:=by simpa using hf5
    have H5:=aA hf5;clear hf5 hT;go_wp2_with fail;refine(nF q3 (kc,ces) _ junk3 _ q7).mono ?_;rintro e w4 ⟨rfl,cn⟩;rw[cn];clear cn w4;go_wp2;go_ret;refine⟨fun q=>(by rw[Ca.out,if_neg H5.out]at q;cases q),fun g' c' bp=>?_⟩;rw[Ca.out,if_neg H5.out]at bp;cases bp;exact⟨ρ3,A3,J3,q3,rfl,Ay,⟨ci.st,ci.mv,ci.js.up (by omega),ci.ad⟩,CL,vn⟩)
theorem lN{α β:Type}(R:Nat→α→β→Prop):∃m:α→β→Nat,(∀x y h,R h x y→R (m x y) x y)∧∀x y h,R h x y→m x y≤h:=by
 have key:∀x y,∃n,(∀h,R h x y→R n x y)∧∀h,R h x y→n≤h:=fun x y=>by
  by_cases e:∃h,R h x y
  ·obtain⟨h,hh⟩:=e
   induction h using Nat.strongRecOn with
   | ind h ih=>
    by_cases e:∃h',h'<h∧R h' x y
    ·obtain⟨h',h1,h2⟩:=e;exact ih h' h1 h2
    ·exact⟨h,fun _ _=>hh,fun h' Kn=>Nat.le_of_not_lt fun hl=>e ⟨h',hl,Kn⟩⟩
  ·exact⟨0,fun h hh=>absurd ⟨h,hh⟩ e,fun h hh=>absurd ⟨h,hh⟩ e⟩
 refine⟨fun x y=>(key x y).choose,fun x y h hh=>(key x y).choose_spec.1 h hh,fun x y h hh=>(key x y).choose_spec.2 h hh⟩
theorem aIQ(W:World)(k:ByteArray):(Instr.build 110 #[(0,.string k)]).run Tryz.prog W=.ok (.agg #[.string k,.string .empty,.int .i64 0]) W:=by kernel_rfl
structure PuP(k:Nat)(L:Int)(w:World)(ρ:Nat→Nat)(P:Nat)(A:Adr)(f:fZ)(J:List aQ)(r:Option (fZ×Bool))(e:Ending)(w':World):Prop where
 no:r=none→Pk k w ρ P f J e w'
 yes:∀g th,r=some (g,th)→∃ρ' A' J',e=.returned (.bool th)∧Dn k (fun _=>True) w ρ P A f J w' ρ' A' g J'∧Sz L g
structure PuR(w:World)(ρ:Nat→Nat)(P:Nat)(A:Adr)(f:fZ)(J:List aQ)(K:Int)(t H:Nat)(key val:ByteArray)(r:Option (fZ×Bool))(h:Nat)(v:Value)(W:World):Prop where
 le:h≤H
 ex:∃q b ρ' A' f' J' Pt lo hi,v=.pointer (some ⟨q,0,none⟩)∧A'.φ b=some q∧Dn (14+13*(H-h)) (fun _=>True) w ρ P A f J W ρ' A' f' J'∧Sz (K+10+10*((H-h:Nat):Int)) f'∧(∃H',Wk f' t H'∧aN f' t H' Pt b h lo hi)∧loR lo key∧hiR hi key∧sz f'.nodes b<5∧Tch b J'∧putAt h f' b key val=r
theorem aLO(w:World)(ρ:Nat→Nat)(P:Nat)(A:Adr)(f:fZ)(J:List aQ)(t H:Nat)(key val:ByteArray)(MC:St w ρ P A f J)(hW:Wk f t H)(hz:Sz K f)(td:1≤K)(hK:K+10*(H+3)≤700000)(kz:J.length+13*(H+3)≤600000):
  Calls Tryz.prog 99 #[.pointer (some ⟨P,0,none⟩),.pointer (some ⟨A.ra,t*2+1,none⟩),.agg #[.string key,.string val]] w (PuP (13*(H+3)) (K+10*(H+3)) w ρ P A f J (put f t H key val)):=by
 have Gm:=aIQ;have lk:=qV;obtain⟨B,HB⟩:=exH (w.heap.size);obtain⟨w0,PH⟩:=exH (w.alloc (.cells #[.string key,.string val] 85));have c9:Bl w w0:=by rw[PH.out];exact(bQ w.heap.size w).alloc (nR _) _
 have bo:IsC w0 B #[.string key,.string val] 85:=by rw[PH.out,HB.out];exact IsC.new _ _ _
 have sd:=MC.below c9;have OZ:ρ B=0:=Nat.eq_zero_of_not_pos fun q=>by
  obtain⟨_,_,_,hR,_⟩:=id MC;have:=hR.own B (by omega);rw[HB.out]at this;omega
 have Gk:∀k L e w',PuP k L w0 ρ P A f J (put f t H key val) e w'→PuP k L w ρ P A f J (put f t H key val) e w':=fun k L e w' hp=>by
  refine⟨fun q=>?_,fun g th q=>?_⟩
  ·obtain⟨h1,ρ',A',g,J',a,b,c⟩:=hp.no q
   exact⟨h1,ρ',A',g,J',a,(Mv.of_below c9).trans b (fun _ _ e=>e),c⟩
  ·obtain⟨ρ',A',J',a,b,c⟩:=hp.yes g th q
   exact⟨ρ',A',J',a,⟨b.st,(Mv.of_below c9).trans b.mv (fun _ _ e=>e),b.js,b.ad⟩,c⟩
 have HP:=aA Gk;have hL:dR f (.root t):=hW.tl;have Pn:gV A (.root t) ⟨A.ra,t*2+1,none⟩:=rfl;clear Gk;go_enter Tryz.func99,Tryz.ntmps99;go_wp2_with fail;rw[←PH.out,←HB.out];refine(iI w0 ρ P A f J (.root t) ⟨A.ra,t*2+1,none⟩ sd hW.ic hz td (by omega) (by omega) hL Pn (fun b i e=>by cases e)).mono ?_;intro e w3 hT;cases al:shadow f (.root t)with
 | none=>
  obtain⟨rfl,ρ3,A3,g3,J3,a1,a2,a3⟩:=hT.no al;have kv:put f t H key val=none:=by simp only[put,al]
  exact⟨rfl,HP.out _ _ _ _ ⟨fun _=>⟨rfl,ρ3,A3,g3,J3,a1,a2,a3.up (by omega)⟩,fun g c bp=>by rw[kv]at bp;cases bp⟩⟩
 | some gc=>
  obtain⟨g1,r⟩:=gc;obtain⟨ρ3,A3,J3,q3,rfl,Ay,bh,CL,vn⟩:=hT.yes g1 r al;obtain⟨w1,p1,a1,a2,a3,a4,-,a6⟩:=hW.shadow_root al;obtain⟨⟨kc,ces⟩,hd⟩:=w1.ic.live (x:=r) (by rw[a3];omega);have au:ces.length≤5:=by
   obtain⟨d',d1,_,d2,_⟩:=((p1.ok w1.ok).1).sz_pos;rw[hd]at d1;cases d1;exact d2
  obtain⟨q3',junk3,e1,UH,Nh,q7⟩:=bh.st.getNode hd;rw[Ay]at e1;cases e1;have Ky:A3.ra=A.ra:=bh.ad.ra;have HD:Hid (put f t H key val=if ces.length=5 then match bM g1 t r with
   | none=>none
   | some (k,top)=>putAt (H+1) k top key val
   else putAt H g1 r key val):=by
   show put f t H key val=_
   unfold put;rw[al];simp only[aE hd];rfl
  obtain⟨m,vj,oa⟩:=lN (PuR w0 ρ P A f J K t (H+1) key val (put f t H key val));have Cc:=aA vj;have En:=aA oa;have HX:=aA (aI hK kz);clear vj oa hK kz;by_cases hf5:ces.length=5
  case' pos=>
   have AG:decide (ces.length=5)=true:=by simpa using hf5
   have H5:=aA hf5;clear hf5 hT au;go_wp2_with fail;refine(nF q3 (kc,ces) _ junk3 _ q7).mono ?_;rintro e w4 ⟨rfl,cn⟩;rw[cn];clear cn w4;go_wp2_with fail;rw[←Ky];refine(yL (K:=K+10) w3 ρ3 P A3 g1 J3 t r kc ces bh.st w1.ic vn (by omega) (by have:=HX.out;omega) (by have:=bh.js.len;have:=HX.out;omega) w1.tl a1 hd H5.out CL).mono ?_;intro e w4 hG;rcases bm:bM g1 t r with _ | ⟨g2,top⟩
   ·have kv:put f t H key val=none:=by rw[HD.out,if_pos H5.out,bm]
    obtain⟨rfl,ρ4,A4,g4,J4,b1,b2,b3⟩:=hG.no bm;exact⟨rfl,HP.out _ _ _ _ ⟨fun _=>⟨rfl,ρ4,A4,g4,J4,b1,bh.mv.trans b2 (fun _ _ e=>e),(bh.js.trans b3).up (by omega)⟩,fun g c bp=>by rw[kv]at bp;cases bp⟩⟩
   obtain⟨ρ4,A4,J4,q4,rfl,rz,De,P5,i9⟩:=hG.yes g2 top bm;have Pu:∃h0,PuR w0 ρ P A f J K t (H+1) key val (put f t H key val) h0 (.pointer (some ⟨q4,0,none⟩)) w4:=by
    have ET:=bm;unfold bM at bm;rw[aE hd]at bm;simp only at bm;by_cases pf:aF g1=0
    ·rw[if_pos pf]at bm;cases bm
    ·rw[if_neg pf]at bm
     generalize hT:aF (takeAt (setN g1 r (kc,ces.take 3)) (aF g1) (kc,ces.drop 3))=tp at *;by_cases d8:tp=0
     ·rw[if_pos d8]at bm;cases bm
     ·rw[if_neg d8]at bm
      simp only[sJ,Prod.mk.injEq]at bm;obtain⟨e1,rfl⟩:=bm;obtain⟨l1,l2,l3,l4⟩:=aR pf;obtain⟨m1,m2,m3,m4⟩:=aR (hT▸d8);rw[hT]at m1 m2 m3;have nk:∀x,cu (takeAt (setN g1 r (kc,ces.take 3)) (aF g1) (kc,ces.drop 3)) x=if aF g1=x then 1 else cu g1 x:=fun x=>dT (f:=setN g1 r (kc,ces.take 3)) (kc,ces.drop 3) l2 x;rw[nk]at m3;have su:tp≠aF g1:=fun e=>by rw[if_pos e.symm]at m3;omega
      rw[if_neg (Ne.symm su)]at m3;have m2':tp<g1.cur.length:=by simpa [takeAt,setN] using m2
      have h5:=H5.out;rw[←a1]at a3 hd e1;obtain⟨w2,p2,b1,b2,b3⟩:=w1.grow a3 hd (m:=3) (by omega) (by omega) l1 l2 l3 m1 m2' m3 su;rw[e1]at w2 p2 b3;refine⟨H+1,nR _,q4,tp,ρ4,A4,g2,J4,_,_,_,rfl,rz,⟨De.st,bh.mv.trans De.mv (fun _ _ e=>e),(bh.js.trans De.js).up (by omega),(bh.ad.trans De.ad).up fun _ _=>trivial⟩,i9.up (by omega),⟨_,w2,p2⟩,trivial,trivial,by unfold sz;rw[b3];simp,P5,?_⟩;rw[HD.out,if_pos H5.out,ET]
   clear bh De hG bm q7 hd;go_wp2
  case' neg=>
   have AG:decide (ces.length=5)=false:=by simpa using hf5
   have H5:=aA hf5;have LK:=aA au;clear hf5 hT au;go_wp2_with fail;refine(nF q3 (kc,ces) _ junk3 _ q7).mono ?_;rintro e w4 ⟨rfl,cn⟩;rw[cn];clear cn w4;have Pu:∃h0,PuR w0 ρ P A f J K t (H+1) key val (put f t H key val) h0 (.pointer (some ⟨q3,0,none⟩)) w3:=by
    refine⟨H,Nat.le_succ _,q3,r,ρ3,A3,g1,J3,_,_,_,rfl,Ay,⟨bh.st,bh.mv,bh.js.up (by omega),bh.ad.top⟩,vn.up (by omega),⟨_,w1,p1⟩,trivial,trivial,?_,CL,?_⟩
    ·unfold sz;rw[hd];have:=H5.out;have:=LK.out;simp only;omega
    ·rw[HD.out,if_neg H5.out]
   clear bh q7 hd;go_wp2
  all_goals (
   clear HD H5 Ky;have DQ:=Pu;clear Pu;go_loopw [7] (fun v wr=>∃h,PuR w0 ρ P A f J K t (H+1) key val (put f t H key val) h v wr) (fun v wr=>m v wr)
   case atStart=>exact DQ
   case round=>
    obtain⟨h',Ey⟩:=hrel;have hR:=Cc.out _ _ _ Ey;clear Ey DQ;obtain⟨h,Hh⟩:=exH (m u7 wr);rw[←Hh.out]at hR;obtain⟨ph,q,b,ρ4,A4,f4,J4,Pt,lo,hi,rfl,rz,bh,i9,⟨H',w4,p4⟩,pq,y7,h5,Ez,cg⟩:=hR;have kq:IsC wr B #[.string key,.string val] 85:=bo.frm bh.mv.frm (fun e=>by rcases e with e | e;exact e OZ;exact e);have mq:=aA ph;clear ph;cases h with
    | succ h=>
     obtain⟨es,af,qg,av⟩:=p4.inner w4;obtain⟨q',junk,e1,wn,wl,hN⟩:=bh.st.getNode af;rw[rz]at e1;cases e1;have c0:wr.cell? ⟨q,0,none⟩=some (.int .i64 2):=by rw[hN.box.cell];rfl
     have ck:wr.cell? ⟨B,0,none⟩=some (.string key):=kq.c rfl;go_wp2_with fail;refine(zU (K:=K+10+10*((H+1 -(h+1):Nat):Int)) wr ρ4 P A4 f4 J4 t H' Pt b h lo hi key q bh.st w4 p4 pq h5 rz i9 (by omega) (by have:=HX.out;have:=mq.out;omega) (by have:=HX.out;have:=bh.js.len;have:=mq.out;omega) Ez).mono ?_;intro e w5 hS;cases mm:stepDown f4 b key with
     | none=>
      obtain⟨rfl,ρ5,A5,g5,J5,b1,b2,b3⟩:=hS.no mm;have kv:put f t H key val=none:=by rw[←cg];unfold putAt;rw[mm]
      exact⟨rfl,HP.out _ _ _ _ ⟨fun _=>⟨rfl,ρ5,A5,g5,J5,b1,bh.mv.trans b2 (fun _ _ e=>e),(bh.js.trans b3).up (by have:=mq.out;omega)⟩,fun g c bp=>by rw[kv]at bp;cases bp⟩⟩
     | some gc=>
      obtain⟨g5,c5⟩:=gc;obtain⟨ρ5,A5,J5,q5,rfl,Oa,mo,Ih,Af⟩:=hS.yes g5 c5 mm;obtain⟨P',lo',am,w6,p6,l1,l2,l3,-,-⟩:=w4.stepDown p4 pq y7 h5 mm;have lw:PuR w0 ρ P A f J K t (H+1) key val (put f t H key val) h (.pointer (some ⟨q5,0,none⟩)) w5:=by
       refine⟨by have:=mq.out;omega,q5,c5,ρ5,A5,g5,J5,P',lo',am,rfl,Oa,⟨mo.st,bh.mv.trans mo.mv (fun _ _ e=>e),(bh.js.trans mo.js).up (by have:=mq.out;omega),(bh.ad.trans mo.ad).up fun _ _=>trivial⟩,Af.up (by have:=mq.out;omega),⟨_,w6,p6⟩,l1,l2,l3,Ih,?_⟩;rw[←cg];conv=>rhs;unfold putAt;rw[mm]
      clear hS mo bh;go_wp2;go_roundw
      case rel=>exact⟨h,lw⟩
      case measure=>
       have h1:=En.out _ _ _ lw;have h2:=Hh.out;exact Nat.lt_of_le_of_lt h1 (by show h<m _ _;rw[←h2];exact Nat.lt_succ_self h)
    | zero=>
     obtain⟨es,af,qg,xl⟩:=p4.leaf w4;obtain⟨q',junk,e1,wn,wl,hN⟩:=bh.st.getNode af;rw[rz]at e1;cases e1;have Af:es.length<5:=by unfold sz at h5;rw[af]at h5;exact h5
     have Hd:put f t H key val=some (setN f4 b (1,putE es key val),fD es key):=by rw[←cg];unfold putAt;rw[aE af]
     obtain⟨a,ha⟩:∃a,a=A4.α b:=⟨_,rfl⟩;rw[←ha]at hN;have c0:wr.cell? ⟨q,0,none⟩=some (.int .i64 1):=by rw[hN.box.cell];rfl
     have c1:wr.cell? ⟨q,1,none⟩=some (.slice (adr a) es.length (es.length+junk.length)):=by rw[hN.box.cell];rfl
     have ck:wr.cell? ⟨B,0,none⟩=some (.string key):=kq.c rfl;have Fc:NRd wr.drew (.slice (adr a) es.length (es.length+junk.length)) es:=hN.esl.nrd;have C2:=hN.box.lt;have wv:=kq.lt;have sa:=aA Hd;have HA:=aA ha;clear cg Hd ha;go_wp2;go_region_held3 (fun w'=>w'.cell? ⟨q,1,none⟩=some (.slice (adr a) es.length (es.length+junk.length))∧w'.cell? ⟨B,0,none⟩=some (.string key)) (first | go_keep | exact⟨c1,ck⟩ | exact⟨(hB.cell (p:=⟨q,1,none⟩) C2).trans c1,(hB.cell (p:=⟨B,0,none⟩) wv).trans ck⟩) ((go_at_call 119;refine(iD _ es key _ Fc (by omega) qg.srt).mono ?_;rintro e w5 ⟨c9,he⟩;have E4:e=.returned (.tuple #[.int .i64 (cLt es key),.bool (fD es key)]):=he;subst E4;have hB:Bl wr w5:=(bQ wr.heap.size wr).drew.trans c9));have cw:=bh.st.below hB;have ng:Mv (fun _=>False) w0 ρ w5 ρ4:=bh.mv.trans (Mv.of_below hB) (fun _ _ e=>e);have iy:=hN.below hB;have rf:IsC w5 B #[.string key,.string val] 85:=kq.of (hB.block B wv);have au:=kM es key;obtain⟨i,HI⟩:=exH (cLt es key);rw[←HI.out]at au ⊢;have DI:=bh.js;have Ld:=bh.ad;clear bh hN c0 c1 ck Fc kq hB;by_cases hk:fD es key=true
     case' pos=>
      have Ha:∃ρ9 A9 f9 es5,St w5 ρ9 P A9 f9 J4∧Mv (fun _=>False) w0 ρ w5 ρ9∧AdS (fun _=>True) A A9∧JS (14+13*(H+1-0)) f J f9 J4∧Sz (K+10+10*((H+1-0:Nat):Int)) f9∧f9.nodes b=some (1,es5)∧A9.φ b=some q∧i<es5.length∧es5.length≤5∧setN f9 b (1,es5.set i ((es5.getD i e0).1,val,(es5.getD i e0).2.2))=setN f4 b (1,putE es key val)∧IsC w5 B #[.string key,.string val] 85:=by
       obtain⟨k1,k2⟩:=(dJ es key).1 hk;refine⟨ρ4,A4,f4,es,cw,ng,Ld,DI,i9,af,rz,by rw[HI.out];exact k1,by omega,?_,rf⟩;unfold putE;rw[if_pos hk,HI.out]
      rw[hk];rw[hk]at sa;clear hk;generalize Hl:w5=w9 at *;go_wp2
     case' neg=>
      have lc:fD es key=false:=by simpa using hk
      rw[lc];have ak:(adr a,es.length,w5.drew.cell? ⟨q,1,none⟩)=(adr a,es.length,some (.slice (adr a) es.length (es.length+junk.length))):=by
       have:w5.drew.cell? ⟨q,1,none⟩=some (.slice (adr a) es.length (es.length+junk.length)):=by
        show w5.cell? _=_
        rw[iy.box.cell];rfl
       rw[this]
      have qt:w5.drew.cell? ⟨q,1,none⟩=some (.slice (adr a) es.length (es.length+junk.length))∧w5.drew.cell? ⟨B,0,none⟩=some (.string key):=by
       refine⟨by show w5.cell? _=_;rw[iy.box.cell];rfl,by show w5.cell? _=_;rw[rf.cell];rfl⟩
      clear ak;have ak:=qt;clear qt;go_wp2;refine aZ (fun W=>W.cell? ⟨q,1,none⟩=some (.slice (adr a) es.length (es.length+junk.length))∧W.cell? ⟨B,0,none⟩=some (.string key)) 13 (by kernel_rfl) ?_;refine tJ 0 40 (.pointer (some ⟨q,0,none⟩)) rfl ak ?_;simp only[Act.put,sB,sZ,sS];refine tJ 1 41 (.pointer (some ⟨q,0,none⟩)) rfl ak ?_;simp only[Act.put,sB,sZ,sS];refine tJ 2 42 (.pointer (some ⟨q,0,none⟩)) rfl ak ?_;simp only[Act.put,sB,sZ,sS];refine tJ 3 43 (.pointer (some ⟨q,1,none⟩)) rfl ak ?_;simp only[Act.put,sB,sZ,sS];refine tJ 4 44 (.slice (adr a) es.length (es.length+junk.length)) rfl ak ?_;simp only[Act.put,sB,sZ,sS];refine tJ 5 45 (.int .i64 i) rfl ak ?_;simp only[Act.put,sB,sZ,sS];refine tJ 6 46 (.pointer (some ⟨B,0,none⟩)) rfl ak ?_;simp only[Act.put,sB,sZ,sS];refine tJ 7 47 (.string key) rfl ak ?_;simp only[Act.put,sB,sZ,sS];refine tJ 8 48 (.agg #[.string key,.string .empty,.int .i64 0]) rfl ak ?_;simp only[Act.put,sB,sZ,sS];refine oE 9 rfl fun K2 ae=>?_;go_simp;obtain⟨G6,zn⟩:=exH (w5.heap.size);obtain⟨W6,BA⟩:=exH ((w5.alloc (.cells #[.string key,.string .empty,.int .i64 0] 110)).drew);rw[←BA.out,←zn.out];have yw:IsC W6 G6 (bW [(key,.empty,(0:Int))]) 110:=by rw[BA.out,zn.out];exact(IsC.new w5 _ _).drew
      have sb:Bl w5 W6:=by rw[BA.out];exact((bQ w5.heap.size w5).alloc (nR _) _).drew
      have Lq:∀g,a=some g→g≠G6:=fun g e=>by rw[zn.out];exact Nat.ne_of_lt (iy.arr g e).1.lt
      have ny:=iy.below sb;have qe:IsC W6 B #[.string key,.string val] 85:=rf.of (sb.block B rf.lt);have vm:W6.cell? ⟨q,1,none⟩=some (.slice (adr a) es.length (es.length+junk.length))∧W6.cell? ⟨B,0,none⟩=some (.string key):=⟨by rw[ny.box.cell];rfl,qe.c rfl⟩;refine ae _ _ (fun _=>vm) ?_;clear ae K2 ak;have la:=cw.below sb;refine oE 10 rfl fun K2 ae=>?_;go_simp;refine(jU a es junk [(key,.empty,(0:Int))] (some ⟨G6,0,none⟩) 1 i W6 (fun x e=>(ny.arr x e).1) ny.nil (.inr ⟨G6,0,1,[(key,.empty,(0:Int))],rfl,yw,by simp,by simp⟩) (fun gv o n c e e'=>by cases e;exact Lq _ e' rfl) au (by simp) (by simp;omega) ny.small).mono ?_;rintro e w7 ⟨u,rfl,eS⟩;obtain⟨ua,un,uc,rfl⟩:∃ua un uc,u=.slice ua un uc:=by obtain⟨⟨a',j',e,_⟩,_⟩:=eS;exact⟨_,_,_,e⟩
      have VC:B≠q:=fun e=>by
       have h1:=qe;rw[e]at h1;exact IsC.ne h1 ny.box (by decide) rfl
      have VB:∀g,a=some g→B≠g:=fun g e e'=>by
       have h1:=qe;rw[e']at h1;exact IsC.ne h1 (ny.arr g e).1 (by decide) rfl
      have JA:IsC w7 B #[.string key,.string val] 85:=qe.frm eS.frm (fun e=>VB B e rfl);have nn:w7.cell? ⟨q,1,none⟩=some (.slice (adr a) es.length (es.length+junk.length))∧w7.cell? ⟨B,0,none⟩=some (.string key):=⟨(dB (eS.frm.block q ny.box.lt (fun e=>(ny.arr q e).2 rfl)) 1).trans vm.1,JA.c rfl⟩;obtain⟨a',-,ni,Al,-,vy⟩:=la.ins (w1:=w7) (u:=.slice ua un uc) af rz (by rw[←HA.out];exact eS);have Jw:es.take i++[(key,.empty,(0:Int))]++es.drop i=insE es i (key,.empty,(0:Int)):=by simp[insE]
      rw[Jw]at ni;have d5:b<f4.cur.length:=i9.lt b _ af;have Ha:∃ρ9 A9 f9 es5,St (w7.setCell ⟨q,1,none⟩ (.slice ua un uc)) ρ9 P A9 f9 J4∧Mv (fun _=>False) w0 ρ (w7.setCell ⟨q,1,none⟩ (.slice ua un uc)) ρ9∧AdS (fun _=>True) A A9∧JS (14+13*(H+1-0)) f J f9 J4∧Sz (K+10+10*((H+1-0:Nat):Int)) f9∧f9.nodes b=some (1,es5)∧A9.φ b=some q∧i<es5.length∧es5.length≤5∧setN f9 b (1,es5.set i ((es5.getD i e0).1,val,(es5.getD i e0).2.2))=setN f4 b (1,putE es key val)∧IsC (w7.setCell ⟨q,1,none⟩ (.slice ua un uc)) B #[.string key,.string val] 85:=by
       have ew:(insE es i (key,.empty,(0:Int))).length=es.length+1:=by simp only[insE,lP,List.length_take,List.length_cons,List.length_drop];omega
       refine⟨_,_,_,insE es i (key,.empty,(0:Int)),ni,(ng.trans (Mv.of_below sb) (fun _ _ e=>e)).trans Al (fun _ _ e=>e),(Ld.trans (AdS.arr A4 b a')).up fun _ _=>trivial,DI.trans (JS.setN _ Ez),i9.setN d5 (by simp only;omega),aD _ _ _,rz,by omega,by omega,?_,JA.set_ne _ VC⟩;have e9:(insE es i (key,.empty,(0:Int))).getD i e0=(key,.empty,(0:Int)):=by
        rw[jJ _ _ _ _ au,if_neg (by omega),if_pos rfl]
       rw[e9];have e10:(insE es i (key,.empty,(0:Int))).set i (key,val,0)=insE es i (key,val,0):=by
        unfold insE;rw[List.set_append_right _ _ (by simp;omega),List.length_take,show i-min i es.length=0 by omega];rfl
       simp only
       rw[e10];unfold putE;rw[if_neg hk,HI.out];unfold setN;simp only;congr 1;funext x;by_cases ex:x=b<;>simp[upd,ex]
      refine ae _ _ (fun _=>nn) ?_;clear ae K2 vm ni Al la eS ny yw qe;refine oE 11 rfl fun K2 ae=>?_;go_simp;refine ae _ _ (fun _=>nn) ?_;clear ae K2;refine oE 12 rfl fun K2 ae=>?_;go_simp;refine ae _ _ (fun _=>nn) ?_;clear ae K2;obtain⟨Bu,-⟩:=nn;refine oE 13 rfl fun K2 ae=>?_;go_simp;refine ae _ _ (fun q=>absurd rfl q) ?_;clear ae K2;refine aS (by kernel_rfl) ?_ _;clear Bu JA vy;rw[lc]at sa;clear hk lc;generalize Hl:w7.setCell ⟨q,1,none⟩ (.slice ua un uc)=w9 at *;go_wp2
     all_goals (
      obtain⟨ρ9,A9,f9,es5,py,CI,PM,Lv,DB,fu,UJ,WT,OS,bg,MO⟩:=Ha;clear cw ng iy rf Hl;obtain⟨q',junk5,e1,Xs,Xp,IW⟩:=py.getNode fu;rw[UJ]at e1;cases e1;obtain⟨g5,E5⟩:=IW.arrOf (by simp only;omega);rw[E5]at IW;have Ex:=IW.setc (i:=i) (j:=1) (v:=.string val) (e':=((es5.getD i e0).1,val,(es5.getD i e0).2.2)) WT (by omega) (by simp[aJ]);obtain⟨P0,Ev⟩:=py.nodeSame (w':=w9.setCell ⟨g5,i*3+1,none⟩ (.string val)) fu UJ (Frm.set w9 (p:=⟨g5,i*3+1,none⟩) (.inr E5) _) (by rw[E5];exact Ex);rw[bg]at P0;have QJ:b<f9.cur.length:=DB.lt b _ fu;have zg:Sz (K+10*(H+3)) (setN f4 b (1,putE es key val)):=by rw[←bg];exact(DB.up (by omega)).setN QJ (by simp only[List.length_set];omega)
      have S3:JS (13*(H+3)) f J (setN f4 b (1,putE es key val)) J4:=by rw[←bg];exact(Lv.trans (JS.setN _ Ez)).up (by omega)
      have HF:=aA (show Dn (13*(H+3)) (fun _=>True) w0 ρ P A f J (w9.setCell ⟨g5,i*3+1,none⟩ (.string val)) ρ9 A9 (setN f4 b (1,putE es key val)) J4∧Sz (K+10*(H+3)) (setN f4 b (1,putE es key val))from⟨⟨P0,CI.trans Ev (fun _ _ e=>e),S3,PM⟩,zg⟩);have np:w9.drew.cell? ⟨q,1,none⟩=some (.slice (some ⟨g5,0,none⟩) es5.length (es5.length+junk5.length))∧w9.drew.cell? ⟨B,1,none⟩=some (.string val):=⟨by show w9.cell? _=_;rw[IW.box.cell];rfl,by show w9.cell? _=_;rw[MO.cell];rfl⟩;have E8:((i:Nat):Int) <(es5.length:Int):=by omega
      obtain⟨CS,Jc⟩:(∃v,w9.cell? ⟨g5,i*3+1,none⟩=some v)∧w9.frozen? ⟨g5,i*3+1,none⟩=false:=⟨⟨_,(bG (IW.arr g5 rfl).1 (i:=i) (by simp;omega)).2.1⟩,(IW.arr g5 rfl).1.frozen _⟩;obtain⟨ve,CS⟩:=CS;clear P0 Ev zg S3 bg Ex py CI IW MO Lv DB;refine aZ (fun W=>W.cell? ⟨q,1,none⟩=some (.slice (some ⟨g5,0,none⟩) es5.length (es5.length+junk5.length))∧W.cell? ⟨B,1,none⟩=some (.string val)) 9 (by kernel_rfl) ?_;refine tJ 0 53 (.pointer (some ⟨q,0,none⟩)) rfl np ?_;simp only[Act.put,sB,sZ,sS];refine tJ 1 54 (.pointer (some ⟨q,0,none⟩)) rfl np ?_;simp only[Act.put,sB,sZ,sS];refine tJ 2 55 (.pointer (some ⟨q,1,none⟩)) rfl np ?_;simp only[Act.put,sB,sZ,sS];refine tJ 3 56 (.slice (some ⟨g5,0,none⟩) es5.length (es5.length+junk5.length)) rfl np ?_;simp only[Act.put,sB,sZ,sS];refine tJ 4 57 (.int .i64 i) rfl np ?_;simp only[Act.put,sB,sZ,sS];refine tJ 5 58 (.pointer (some ⟨B,1,none⟩)) rfl np ?_;simp only[Act.put,sB,sZ,sS];refine tJ 6 59 (.string val) rfl np ?_;simp only[Act.put,sB,sZ,sS];refine oE 7 rfl fun K2 ae=>?_;go_simp;refine ae _ _ (fun _=>np) ?_;clear ae K2;refine oE 8 rfl fun K2 ae=>?_;go_simp;refine ae _ _ (fun _=>np) ?_;clear ae K2;refine oE 9 rfl fun K2 ae=>?_;go_simp;refine ae _ _ (fun q=>absurd rfl q) ?_;clear ae K2;refine aS (by kernel_rfl) ?_ _;go_wp2;go_ret;obtain⟨BG,zg⟩:=HF.out;refine HP.out _ _ _ _ ⟨fun q=>(by rw[sa.out]at q;cases q),fun g th hgt=>?_⟩;rw[sa.out]at hgt;cases hgt;exact⟨ρ9,A9,J4,rfl,BG.below (by first | exact bQ _ _ | exact(bQ _ _).drew),zg⟩))
