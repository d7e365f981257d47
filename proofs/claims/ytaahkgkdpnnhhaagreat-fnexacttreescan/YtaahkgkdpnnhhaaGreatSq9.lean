import Derived.Test.YtaahkgkdpnnhhaaGreatSq2
set_option maxHeartbeats 9999999
set_option maxRecDepth 99999
set_option linter.all false
namespace Go.Proofs.YtaahkgkdpnnhhaaGreat
open Go.RowKit Fo
variable{key val:ByteArray}{e:Ending}{tree:Int}{ces es l ses:List E3}{H S b c h i j s t:Nat}{r:Option fZ}{A A1:SA}{v:Value}{w w' w1 w2:World}{f g:fZ}
theorem kZ:∀(h:Nat) (f:fZ) (b:Nat) (P:List Nat) (lo hi:OB),Wk f t H→aN f t H P b h lo hi→loR lo key→hiR hi key→sz f.nodes b<5→VE f→f.roots.length≤16→∀(w:World) (S:Nat) (A:SA),Sp w S A f→
  Calls Tryz.prog 90 #[.pointer (some ⟨S,0,none⟩),.int .i64 b,.string key,.string val] w (ZpP w S A ((putAt h f b key val).map Prod.fst))
 | 0,f,b,P,lo,hi,wk,p,hl,hh,h5,hV,jr,w,S,A,hS=>by
  obtain⟨es,af,hn,hc⟩:=p.leaf wk;have ah:=wk.ent af;refine(wQ w S A hS b es key val af hn.srt hc (by simp only at ah;omega) (wk.ic.lt af)).mono ?_;rintro e w' ⟨rfl,hz⟩;have hp:(putAt 0 f b key val).map Prod.fst=some (setN f b (1,putE es key val)):=by unfold putAt;rw[aE af];rfl
  rw[hp];exact⟨fun q=>(by cases q),fun g q=>(by cases q;exact⟨rfl,hz⟩)⟩
 | h+1,f,b,P,lo,hi,wk,p,hl,hh,h5,hV,jr,w,S,A,hS=>
  uB wk p hl hh h5 hV jr (fun g c P' lo' ak k1 k2 k3 k4 k5 k6 k7=>kZ h g c P' lo' ak k1 k2 k3 k4 k5 k6 k7) w S A hS
theorem aMI(l:List (Int×Int))(t:Nat)(q:Int)(h:t<l.length):(yT.row l).setIfInBounds (t*2+1) (.int .i64 q)=yT.row (l.set t ((l.getD t (0,0)).1,q)):=by
 unfold Ely.row;rw[List.setIfInBounds_toArray];congr 1;induction l generalizing t with
 | nil=>simp at h
 | cons a l ih=>
  cases t with
  | zero=>rfl
  | succ t=>
   simp only[List.flatMap_cons,List.set_cons_succ];have e:yT.cell a=[.int .i64 a.1,.int .i64 a.2]:=rfl;rw[e];have e1:(t+1)*2+1=t*2+1+1+1:=by omega
   rw[e1];show [_,_]++(l.flatMap yT.cell).set (t*2+1) _=_
   rw[ih t (by simpa using h)];rfl
theorem Sp.setRoot(h:Sp w S A f)(ht:t<f.roots.length)(q:Nat):Sp (w.setCell ⟨A.gr,t*2+1,none⟩ (.int .i64 q)) S A (setL f (.root t) q)∧Frm (fun k=>k=A.gr) w (w.setCell ⟨A.gr,t*2+1,none⟩ (.int .i64 q)):=by
 have hF:Frm (fun k=>k=A.gr) w (w.setCell ⟨A.gr,t*2+1,none⟩ (.int .i64 q)):=Frm.set (S:=fun k=>k=A.gr) w (p:=⟨A.gr,t*2+1,none⟩) rfl _;have hg:=h.v.rts;have hl:(setL f (.root t) q).roots.length=f.roots.length:=by simp[setL]
 refine⟨⟨?_,h.v.nds.frm hF (fun g cs k=>k.type_ne hg (by decide)) (h.v.nds.arr.type_ne hg (by decide)),h.v.ln,?_,by rw[hl];exact h.v.rs,h.v.com.frm hF fun g cs k=>k.type_ne hg (by decide)⟩,hF⟩
 ·have:=h.box.frm hF (h.box.type_ne hg (by decide))
  have e:aL A (setL f (.root t) q)=aL A f:=by unfold aL;rw[hl];rfl
  rw[e];exact this
 ·have:=hg.set (t*2+1) (.int .i64 q)
  rw[aMI _ _ _ (by simp;omega),List.set_append_left _ _ ht]at this;have e:(f.roots++A.rj).getD t (0,0)=f.roots.getD t (0,0):=by rw[cM,if_pos ht]
  rw[e]at this;exact this
structure ZrP(w:World)(S:Nat)(A:SA)(f:fZ)(t:Nat)(r:Ending)(w':World):Prop where
 frm:Frm (fun k=>k=A.ga) w w'
 no:shadow f (.root t)=none→r=.returned (.int .i64 (-1))
 yes:∀g c,shadow f (.root t)=some (g,c)→r=.returned (.int .i64 c)∧∃A' f',Sp w' S A' f'∧SaS A A'∧f'.roots=f.roots∧g.roots=(setL f' (.root t) c).roots∧(∀x d,g.nodes x=some d→f'.nodes x=some d)∧g.cur.length=f'.cur.length∧g.next=f'.next∧g.gen=f'.gen∧g.com=f'.com
theorem mB(hI:IC f)(hE:∀b d,f.nodes b=some d→d.2.length≤10)(w:World)(S:Nat)(A:SA)(h:Sp w S A f)(jr:f.roots.length≤16)(t:Nat)(ht:t<f.roots.length):
  Calls Tryz.prog 87 #[.pointer (some ⟨S,0,none⟩),.int .i64 (aB f t)] w (ZrP w S A f t):=by
 obtain⟨d,hd⟩:=hI.root_live (aO ht);refine(nQ hI hE w S A h jr (aB f t) d hd).mono ?_;intro r w' hz;rcases qG hI ht hd with⟨ho,hs,he⟩ | ⟨ho,hl,hs⟩ | ⟨ho,hl,g,hs,h1,h2,h3⟩
 ·obtain⟨rfl,hb⟩:=hz.own ho
  refine⟨Frm.of_below hb,fun q=>(by rw[hs]at q;cases q),fun g c q=>?_⟩;rw[hs]at q;cases q;exact⟨rfl,A,f,h.below hb,SaS.refl _,rfl,he.symm,fun _ _ q=>q,rfl,rfl,rfl,rfl⟩
 ·obtain⟨rfl,hb⟩:=hz.no ho hl
  exact⟨Frm.of_below hb,fun _=>rfl,fun g c q=>(by rw[hs]at q;cases q)⟩
 ·obtain⟨rfl,hS,hF⟩:=hz.yes ho hl
  refine⟨hF,fun q=>(by rw[hs]at q;cases q),fun g' c q=>?_⟩;rw[hs]at q;cases q;exact⟨rfl,_,_,hS,SaS.setN _ _ _,rfl,h1,h3,h2.cur,h2.next,h2.gen,h2.com⟩
structure ZqP(w:World)(S:Nat)(A:SA)(r:Option fZ)(e:Ending)(w':World):Prop where
 frm:Frm (fun k=>k=A.ga∨k=A.gr) w w'
 no:r=none→e=.returned (.bool false)
 yes:∀g,r=some g→e=.returned (.bool true)∧∃A',Sp w' S A' g∧SaS A A'
theorem ZpP.frm(h:ZpP w S A r e w2):Frm (fun k=>k=A.ga) w w2:=by
 cases r with
 | none=>exact(h.no rfl).2
 | some g=>exact(h.yes g rfl).2.frm
theorem ZpP.toQ(hF:Frm (fun k=>k=A.ga∨k=A.gr) w w1)(hA:SaS A A1)(h:ZpP w1 S A1 r e w2):ZqP w S A r e w2:=by
 refine⟨hF.trans (h.frm.wide fun k _ e=>.inl (e.trans hA.ga)),fun q=>(h.no q).1,fun g q=>?_⟩;obtain⟨h1,⟨A2,h2,h3⟩,_⟩:=h.yes g q;exact⟨h1,A2,h2,hA.trans h3⟩
theorem aLI(w:World)(a b:E3){g:Nat}(hg:g=w.heap.size):yE.Sl (w.alloc (.cells #[.string a.1,.string a.2.1,.int .i64 a.2.2,.string b.1,.string b.2.1,.int .i64 b.2.2] 110)) (.slice (some ⟨g,0,none⟩) 2 2) [a,b]:=by
 subst hg;exact .inr ⟨w.heap.size,0,2,[a,b],by simp,IsC.new _ _ _,by simp,by simp⟩
theorem aEK(wk:Wk f t H)(hV:VE f)(jr:f.roots.length≤16)(w:World)(S:Nat)(A:SA)(hS:Sp w S A f):
  Calls Tryz.prog 69 #[.pointer (some ⟨S,0,none⟩),.int .i64 t,.string key,.string val] w (ZqP w S A ((put f t H key val).map Prod.fst)):=by
 have sm:=gR;have Fr:=iS;have ht:=wk.tl;have hE:=fun b' d' (gd:f.nodes b'=some d')=>(by have:=wk.ent gd;omega:d'.2.length≤10);obtain⟨_,s1,s2,_⟩:=hS.cells;obtain⟨r0,r1⟩:=hS.v.root ht;have h0:0≤(f.roots.getD t (0,0)).2:=(wk.ic.rb _ (aO ht)).1;have fl:(f.roots.getD t (0,0)).2=(aB f t:Int):=by unfold aB;omega
 rw[fl]at r1;have Rv:(t:Int) <(f.roots.length:Int):=by omega
 have yw:=aA (mB wk.ic hE w S A hS jr t ht);have rz:Hid (put f t H key val=match shadow f (.root t)with
  | none=>none
  | some (g,r)=>if(Fo.look g r).2.length=5 then match bM g t r with
   | none=>none
   | some (k,top)=>putAt (H+1) k top key val
   else putAt H g r key val):=rfl
 generalize put f t H key val=PU at *;clear hE fl h0 r0;go_enter Tryz.func69,Tryz.ntmps69;go_wp2_with fail;refine yw.out.mono ?_;intro r w1 hz;obtain⟨ij,uw,uy⟩:=hz;cases al:shadow f (.root t)with
 | none=>
  obtain rfl:=uw al;have HP:Hid (PU=none):=by show PU=none;rw[rz.out];rw[al]
  clear uw uy al;go_wp2;go_ret;rw[HP.out];exact⟨ij.wide fun _ _ e=>.inl e,fun _=>rfl,fun g q=>by cases q⟩
 | some gc=>
  obtain⟨g,r⟩:=gc;obtain⟨rfl,A1,f1,br,Ce,yl,ph,nk,C0,DP,M4,Bj⟩:=uy g r al;obtain⟨wk1,p1,a1,a2,a3,a4,a5,a6⟩:=wk.shadow_root al;have Kn:=hV.shadow_root al;rw[al]at rz;simp only at rz;have Aa:t<f1.roots.length:=by rw[yl];exact ht
  obtain⟨ax,du⟩:=br.setRoot Aa r;have cy:Sp (w1.setCell ⟨A1.gr,t*2+1,none⟩ (.int .i64 r)) S A1 g:=ax.sub nk C0 ph DP M4 Bj;obtain⟨_,t1,t2,_⟩:=br.cells;obtain⟨_,z1⟩:=br.v.root Aa;have z2:=br.v.rts.frozen (t*2+1);have bu:Frm (fun k=>k=A.ga∨k=A.gr) w (w1.setCell ⟨A1.gr,t*2+1,none⟩ (.int .i64 r)):=(ij.wide fun _ _ e=>.inl e).trans (du.wide fun _ _ e=>.inr (e.trans Ce.gr));obtain⟨w2,ci⟩:=eZ (w1.setCell ⟨A1.gr,t*2+1,none⟩ (.int .i64 r));rw[ci]at cy bu;obtain⟨⟨k,es⟩,hd⟩:=wk1.ic.live (x:=r) (by rw[a3];omega);have au:=wk1.ent hd;simp only at au;obtain⟨_,u1,u2,_⟩:=cy.cells;obtain⟨ac,cpc,fx,JD,_,d0,d1,EK⟩:=cy.v.nds.at hd;simp only at fx d0 d1 EK;have YV:(r:Int) <(A1.ns.length:Int):=by omega
  have Ru:(t:Int) <(f1.roots.length:Int):=by omega
  have KF:¬((r:Int)<0):=by omega
  have BA:Hid (g.roots.length≤16):=by show g.roots.length≤16;rw[a6.len];exact jr
  have HX:=aA cy;have HF:=aA bu;have HA:=aA Ce;rw[aE hd]at rz;simp only at rz;clear uw uy al ij du bu br ax cy yl ph nk C0 DP M4 Bj Ce yw a6;go_upto_if 43 with fail
  clear ci;by_cases hf5:es.length=5
  ·have td:((es.length:Int) == 5)=true:=by rw[hf5];rfl
   rw[td];rw[if_pos hf5]at rz;have H5:=aA hf5;clear hf5 td;have IK:=fun b' d' (gd:g.nodes b'=some d')=>(by have:=wk1.ent gd;omega:d'.2.length≤10);have S6:=wk1.ic.counts BA.out IK;have HT:=aA (mT g);have Lh:=aA fun(w':World) (hb:Bl w2 w') (x:Int)=>mP wk1.ic S6 IK w' S A1 (HX.out.below hb) (by have:=BA.out;omega) x;clear IK fx S6;have Li:=aA (Lh.out w2 (bQ _ _) (-1));go_wp2_with fail;refine Li.out.mono ?_;rintro r2 w3 ⟨rfl,bx⟩;rw[HT.out];unfold bM at rz;rw[aE hd]at rz;simp only at rz;by_cases pf:aF g=0
   ·rw[if_pos pf]
    rw[if_pos pf]at rz;have HP:Hid (PU=none):=rz.out;clear pf rz;go_wp2;go_ret;rw[HP.out];exact⟨HF.out.trans (Frm.of_below bx),fun _=>rfl,fun g q=>by cases q⟩
   ·rw[if_neg pf]
    rw[if_neg pf]at rz;obtain⟨l1,l2,l3,l4⟩:=aR pf;have FT:=aA (aBV (f:=g) (g:=setN g r (k,es.take 3)) (d:=(k,es.drop 3)) rfl rfl l2);have H8:=aA (Lh.out w3 bx (aF g));generalize hTp:aF (takeAt (setN g r (k,es.take 3)) (aF g) (k,es.drop 3))=tp at *;have Ij:=aA hTp;clear hTp;obtain⟨q,hq⟩:=eZ (aF g);rw[hq]at FT H8;have am:¬((q:Int)<0):=by omega
    have HQ:=aA hq;rw[hq];clear hq;go_wp2_with fail;refine H8.out.mono ?_;rintro r3 w4 ⟨rfl,kw⟩;rw[FT.out];by_cases ee:tp=0
    ·rw[if_pos ee]
     rw[if_pos ee]at rz;have HP:Hid (PU=none):=rz.out;clear ee rz;go_wp2;go_ret;rw[HP.out];exact⟨(HF.out.trans (Frm.of_below bx)).trans (Frm.of_below kw),fun _=>rfl,fun g q=>by cases q⟩
    ·rw[if_neg ee]
     rw[if_neg ee,HQ.out]at rz;have HP:Hid (PU=putAt (H+1) (growF g t r k es 3 q tp (ky es 0) (ky es 3)) tp key val):=rz.out;rw[HQ.out]at l1 l2 l3 l4;obtain⟨m1,m2,m3,m4⟩:=aR (f:=takeAt (setN g r (k,es.take 3)) (aF g) (k,es.drop 3)) (by rw[Ij.out];exact ee);rw[Ij.out]at m1 m2 m3;rw[HQ.out]at m2 m3;have ot:∀x,cu (takeAt (setN g r (k,es.take 3)) q (k,es.drop 3)) x=if q=x then 1 else cu g x:=fun x=>dQ (f:=setN g r (k,es.take 3)) (k,es.drop 3) l2 x;rw[ot]at m3;have sq:tp≠q:=fun e=>by rw[if_pos e.symm]at m3;omega
     rw[if_neg (Ne.symm sq)]at m3;have m2':tp<g.cur.length:=by simpa [takeAt,setN] using m2
     subst a1;obtain⟨wk2,p2,_,_,b3⟩:=wk1.grow a3 hd (m:=3) (by omega) (by have:=H5.out;omega) l1 l2 l3 m1 m2' m3 sq;have MO:=Kn.growF t (aB g t) k (Kn _ _ hd) 3 q tp (ky es 0) (ky es 3);have KK:aB g t≠q:=fun e=>by rw[e]at a3;omega
     have ez:aB g t≠tp:=fun e=>by rw[e]at a3;omega
     have bd:sz (growF g t (aB g t) k es 3 q tp (ky es 0) (ky es 3)).nodes tp<5:=by unfold sz;rw[b3];simp
     have MD:(growF g t (aB g t) k es 3 q tp (ky es 0) (ky es 3)).roots.length≤16:=by
      have:(growF g t (aB g t) k es 3 q tp (ky es 0) (ky es 3)).roots.length=g.roots.length:=(aX.growF ..).len
      rw[this];exact BA.out
     have CM:=(HX.out.below bx).below kw;have Ox:=aA (rZ w4 S A1 CM (aB g t) q k es hd H5.out (wk1.ic.lt hd) l2 KK);have fy:t<g.roots.length:=wk1.tl;have vb:Hid (∀(A':SA) (w':World) (x:NV),Sp w' S A' (setN (setN g q (k,es.drop 3)) (aB g t) (k,es.take 3))→NdR w' x (2,[(ky es 0,.empty,(aB g t:Int)),(ky es 3,.empty,(q:Int))])→Sp ((set2 w' A'.ga tp x).setCell ⟨A'.gr,t*2+1,none⟩ (.int .i64 tp)) S (A'.setN tp x) (growF g t (aB g t) k es 3 q tp (ky es 0) (ky es 3))∧Frm (fun k=>k=A'.ga∨k=A'.gr) w' ((set2 w' A'.ga tp x).setCell ⟨A'.gr,t*2+1,none⟩ (.int .i64 tp))):=fun A' w' x kr hx=>by
      have h1:=kr.set2 (q:=tp) m2' hx;obtain⟨h2,h3⟩:=h1.setRoot (t:=t) fy tp;refine⟨h2.sub (fun z d' hz=>?_) (by simp[growF,setL,takeAt,setN]) rfl rfl rfl rfl,((eC w' A'.ga tp x).wide fun _ _ e=>.inl e).trans (h3.wide fun _ _ e=>.inr e)⟩;have ru:upd (upd (upd g.nodes (aB g t) (some (k,es.take 3))) q (some (k,es.drop 3))) tp (some (2,[(ky es 0,.empty,(aB g t:Int)),(ky es 3,.empty,(q:Int))])) z=some d':=hz;show upd (upd (upd g.nodes q (some (k,es.drop 3))) (aB g t) (some (k,es.take 3))) tp _ z=some d'
      by_cases e1:z=tp
      ·rw[e1,aD]at ru ⊢;exact ru
      ·rw[aC _ _ e1]at ru ⊢
       by_cases e2:z=aB g t
       ·rw[e2,aC _ _ KK,aD]at ru
        rw[e2,aD];exact ru
       ·rw[aC _ _ e2]
        by_cases e3:z=q
        ·rw[e3,aD]at ru ⊢;exact ru
        ·rw[aC _ _ e3,aC _ _ e2]at ru
         rw[aC _ _ e3];exact ru
     have nm:(setN (setN g q (k,es.drop 3)) (aB g t) (k,es.take 3)).nodes q=some (k,es.drop 3):=by
      show upd (upd g.nodes q _) (aB g t) _ q=_
      rw[aC _ _ (Ne.symm KK),aD]
     have zg:(setN (setN g q (k,es.drop 3)) (aB g t) (k,es.take 3)).nodes (aB g t)=some (k,es.take 3):=aD _ _ _;have Kx:(setN (setN g q (k,es.drop 3)) (aB g t) (k,es.take 3)).cur.length=g.cur.length:=rfl;have NF:(setN (setN g q (k,es.drop 3)) (aB g t) (k,es.take 3)).roots=g.roots:=rfl;have EN:((es.drop 3).getD 0 e0).1=ky es 3:=by rw[eW];rfl
     have NU:((es.take 3).getD 0 e0).1=ky es 0:=by rw[fS _ _ _ (by omega)];rfl
     have fg:0 <(es.drop 3).length:=by rw[List.length_drop,H5.out];omega
     have KS:0 <(es.take 3).length:=by rw[List.length_take,H5.out];omega
     have DV:=aA fun(w':World) (A':SA) (kr:Sp w' S A' (growF g t (aB g t) k es 3 q tp (ky es 0) (ky es 3)))=>kZ (key:=key) (val:=val) (H+1) _ tp [] none none wk2 p2 trivial trivial bd MO MD w' S A' kr;generalize setN (setN g q (k,es.drop 3)) (aB g t) (k,es.take 3)=g7 at *;generalize growF g t (aB g t) k es 3 q tp (ky es 0) (ky es 3)=gs at *;generalize es.drop 3=dr at *;generalize es.take 3=tk at *;generalize ky es 0=f0 at *;generalize ky es 3=f3 at *;generalize aB g t=r at *;clear rz ee Ij b3 wk2 p2 bd MO MD FT HT Lh Li H8;go_wp2_with fail;refine Ox.out.mono ?_;rintro rr w7 ⟨rfl,⟨⟨A7,it,Db⟩,Ak⟩⟩;obtain⟨_,t7,t8,_⟩:=it.cells;obtain⟨aq,cpq,Bv,Rc,_,_,e1',_⟩:=it.v.nds.at nm;obtain⟨ar,cpr,KQ,YU,_,_,e2',_⟩:=it.v.nds.at zg;simp only at Bv e1' KQ e2';obtain⟨gq,oq,cq',Md,Be,EL⟩:=dZ Bv fg;cases Md;obtain⟨gr',or',cr',WJ,ER,Ma⟩:=dZ KQ KS;cases WJ;obtain⟨y0,_,_⟩:=EL w7 0 rfl fg;obtain⟨x0,_,_⟩:=Ma w7 0 rfl KS;rw[EN]at y0;rw[NU]at x0;simp only[Nat.zero_mul,Nat.add_zero]at x0 y0;have Qb:(0:Int) <(dr.length:Int):=by omega
     have XT:(0:Int) <(tk.length:Int):=by omega
     have T5:(q:Int) <(A7.ns.length:Int):=by omega
     have XD:(r:Int) <(A7.ns.length:Int):=by omega
     have GJ:tp<g7.cur.length:=by rw[Kx];exact m2'
     have XU:(t:Int) <(g7.roots.length:Int):=by rw[NF];omega
     have Dt:S≠A7.ga:=it.box.type_ne it.v.nds.arr (by decide);obtain⟨B,hB⟩:=eZ (w7.heap.size);obtain⟨w8,GO⟩:=eZ (w7.alloc (.cells #[.string f0,.string {data:=#[]},.int .i64 r] 110));have oo:=bAl GO;have NK:w8.heap.size=B+1:=by rw[←GO,←hB];simp
     obtain⟨B2,PP⟩:=eZ (w8.heap.size);obtain⟨w9,Hk⟩:=eZ (w8.alloc (.cells #[.string f3,.string {data:=#[]},.int .i64 q] 110));have fu:=bAl Hk;have Rm:w9.heap.size=B+2:=by rw[←Hk];simp;omega
     obtain⟨B3,PR⟩:=eZ (w9.heap.size);have eX:=iNw GO hB;have FU:=eX.of (fu.block _ eX.lt);have db:=iNw Hk PP;have Iz:=oo.trans (fu.mono oo.size);have Ta:=it.below oo;have P9:=it.below Iz;obtain⟨_,t78,_⟩:=Ta.cells;obtain⟨_,t79,t89,_⟩:=P9.cells;have e18:w8.cell? ⟨A7.ga,q*2+1,none⟩=some (.slice (some ⟨gq,oq,none⟩) dr.length cpq):=(oo.cell (p:=⟨A7.ga,_,none⟩) it.v.nds.arr.lt).trans e1';have y08:w8.cell? ⟨gq,oq,none⟩=some (.string f3):=(oo.cell (p:=⟨gq,_,none⟩) Be).trans y0;have c0:w9.cell? ⟨B,0,none⟩=some (.string f0):=FU.c rfl;have c1:w9.cell? ⟨B,1,none⟩=some (.string {data:=#[]}):=FU.c rfl;have c2:w9.cell? ⟨B,2,none⟩=some (.int .i64 r):=FU.c rfl;have c3:w9.cell? ⟨B2,0,none⟩=some (.string f3):=db.c rfl;have c4:w9.cell? ⟨B2,1,none⟩=some (.string {data:=#[]}):=db.c rfl;have c5:w9.cell? ⟨B2,2,none⟩=some (.int .i64 q):=db.c rfl;have Oq:=aA fun(w':World) (x:NV) (hb:Bl w7 w') (hx:NdR w' x (2,[(f0,.empty,(r:Int)),(f3,.empty,(q:Int))]))=>vb.out A7 w' x (it.below hb) hx;have GV:Hid (Frm (fun k=>k=A.ga∨k=A.gr) w w7):=(((HF.out.trans (Frm.of_below bx)).trans (Frm.of_below kw)).trans (Ak.wide fun k _ e=>.inl (e.trans HA.out.ga)));have DB:Hid (SaS A A7):=HA.out.trans Db;have LS:=aA Iz;have N4:=aA P9;have lh:=aA (aI NK Rm);have IG:B≠A7.ga:=by have:=it.v.nds.arr.lt;omega
     have De:B2≠A7.ga:=by have:=it.v.nds.arr.lt;omega
     have Sd:=aA fun(w':World) (hb:Bl w7 w')=>(it.below hb).cells.2.2.1;clear Bv KQ EL Ma Ak Db CM fg KS Kx EN NU NF Ta P9 eX FU db oo fu Iz vb NK Rm;have BQ:=N4.out.below ((bQ w9.heap.size w9).alloc (nR _) (.cells #[.string f0,.string {data:=#[]},.int .i64 r,.string f3,.string {data:=#[]},.int .i64 q] 110));obtain⟨k0,k1,gp,fw,jh,gh,XV⟩:=BQ.wr GJ;have Ig:=aLI w9 (f0,.empty,(r:Int)) (f3,.empty,(q:Int)) rfl;have CN:Bl w7 (w9.alloc (.cells #[.string f0,.string {data:=#[]},.int .i64 r,.string f3,.string {data:=#[]},.int .i64 q] 110)):=LS.out.alloc LS.out.size _;rw[PR]at Ig;obtain⟨w10,KT⟩:=eZ (w9.alloc (.cells #[.string f0,.string {data:=#[]},.int .i64 r,.string f3,.string {data:=#[]},.int .i64 q] 110));have MI:yE.Sl w10 (.slice (some ⟨B3,0,none⟩) 2 2) [(f0,.empty,(r:Int)),(f3,.empty,(q:Int))]:=by rw[←KT];exact Ig
     rw[KT]at gp fw jh gh CN BQ;have z8:NdR w10 ((2:Int),some (⟨B3,0,none⟩:Addr),2,2) (2,[(f0,.empty,(r:Int)),(f3,.empty,(q:Int))]):=⟨rfl,MI,nR _⟩;obtain⟨MP,Lu⟩:=Oq.out w10 _ CN z8;have PH:=aA MP;have On:Hid (Frm (fun k=>k=A.ga∨k=A.gr) w ((set2 w10 A7.ga tp (2,some ⟨B3,0,none⟩,2,2)).setCell ⟨A7.gr,t*2+1,none⟩ (.int .i64 tp))):=(GV.out.trans (Frm.of_below CN)).trans (Lu.wide fun k _ e=>e.elim (fun e=>.inl (e.trans DB.out.ga)) fun e=>.inr (e.trans DB.out.gr));have v2:(set2 w10 A7.ga tp (2,some ⟨B3,0,none⟩,2,2)).drew.cell? ⟨S,2,none⟩=some (.slice (some ⟨A7.gr,0,none⟩) g7.roots.length (g7.roots.length+A7.rj.length)):=(BQ.set2 GJ z8).drew.cells.2.2.1;have v3:(set2 w10 A7.ga tp (2,some ⟨B3,0,none⟩,2,2)).drew.cell? ⟨A7.gr,t*2+1,none⟩=some (.int .i64 (g7.roots.getD t (0,0)).2):=((BQ.set2 GJ z8).drew.v.root (t:=t) (show t<g7.roots.length by omega)).2;have v4:(set2 w10 A7.ga tp (2,some ⟨B3,0,none⟩,2,2)).drew.frozen? ⟨A7.gr,t*2+1,none⟩=false:=(BQ.set2 GJ z8).drew.v.rts.frozen (t*2+1);have Rj:(w10.setCell ⟨A7.ga,tp*2,none⟩ (.int .i64 2)).setCell ⟨A7.ga,tp*2+1,none⟩ (.slice (some ⟨B3,0,none⟩) 2 2)=set2 w10 A7.ga tp (2,some ⟨B3,0,none⟩,2,2):=rfl;have ub:=bAl KT;have Ip:w10.drew.cell? ⟨S,1,none⟩=some (.slice (some ⟨A7.ga,0,none⟩) A7.ns.length (A7.ns.length+A7.nj.length)):=BQ.drew.cells.2.1;have Jt:B<w9.heap.size∧B2<w9.heap.size:=by have:=lh.out;omega
     have Iq:w10.drew.cell? ⟨B,0,none⟩=some (.string f0):=(ub.cell (p:=⟨B,_,none⟩) Jt.1).trans c0;have Ir:w10.drew.cell? ⟨B,1,none⟩=some (.string {data:=#[]}):=(ub.cell (p:=⟨B,_,none⟩) Jt.1).trans c1;have It:w10.drew.cell? ⟨B,2,none⟩=some (.int .i64 r):=(ub.cell (p:=⟨B,_,none⟩) Jt.1).trans c2;have Iu:w10.drew.cell? ⟨B2,0,none⟩=some (.string f3):=(ub.cell (p:=⟨B2,_,none⟩) Jt.2).trans c3;have Iv:w10.drew.cell? ⟨B2,1,none⟩=some (.string {data:=#[]}):=(ub.cell (p:=⟨B2,_,none⟩) Jt.2).trans c4;have Iw:w10.drew.cell? ⟨B2,2,none⟩=some (.int .i64 q):=(ub.cell (p:=⟨B2,_,none⟩) Jt.2).trans c5;have U3:=aA (aI Ip (aI Iq (aI Ir (aI It (aI Iu (aI Iv Iw))))));have U4:Hid (∀v0 v1,((w10.drew.setCell ⟨A7.ga,tp*2,none⟩ v0).setCell ⟨A7.ga,tp*2+1,none⟩ v1).drew.cell? ⟨S,1,none⟩=some (.slice (some ⟨A7.ga,0,none⟩) A7.ns.length (A7.ns.length+A7.nj.length))∧((w10.drew.setCell ⟨A7.ga,tp*2,none⟩ v0).setCell ⟨A7.ga,tp*2+1,none⟩ v1).drew.cell? ⟨B,0,none⟩=some (.string f0)∧((w10.drew.setCell ⟨A7.ga,tp*2,none⟩ v0).setCell ⟨A7.ga,tp*2+1,none⟩ v1).drew.cell? ⟨B,1,none⟩=some (.string {data:=#[]})∧((w10.drew.setCell ⟨A7.ga,tp*2,none⟩ v0).setCell ⟨A7.ga,tp*2+1,none⟩ v1).drew.cell? ⟨B,2,none⟩=some (.int .i64 r)∧((w10.drew.setCell ⟨A7.ga,tp*2,none⟩ v0).setCell ⟨A7.ga,tp*2+1,none⟩ v1).drew.cell? ⟨B2,0,none⟩=some (.string f3)∧((w10.drew.setCell ⟨A7.ga,tp*2,none⟩ v0).setCell ⟨A7.ga,tp*2+1,none⟩ v1).drew.cell? ⟨B2,1,none⟩=some (.string {data:=#[]})∧((w10.drew.setCell ⟨A7.ga,tp*2,none⟩ v0).setCell ⟨A7.ga,tp*2+1,none⟩ v1).drew.cell? ⟨B2,2,none⟩=some (.int .i64 q)):=fun v0 v1=>⟨bU Dt Ip,bU IG Iq,bU IG Ir,bU IG It,bU De Iu,bU De Iv,bU De Iw⟩;clear BQ MP Lu z8 MI Ig CN Ip Iq Ir It Iu Iv Iw Jt ub;go_wp2_with fail;go_region_held3 (fun W=>W.cell? ⟨S,1,none⟩=some (.slice (some ⟨A7.ga,0,none⟩) A7.ns.length (A7.ns.length+A7.nj.length))∧W.cell? ⟨B,0,none⟩=some (.string f0)∧W.cell? ⟨B,1,none⟩=some (.string {data:=#[]})∧W.cell? ⟨B,2,none⟩=some (.int .i64 r)∧W.cell? ⟨B2,0,none⟩=some (.string f3)∧W.cell? ⟨B2,1,none⟩=some (.string {data:=#[]})∧W.cell? ⟨B2,2,none⟩=some (.int .i64 q)) (first | exact U3.out | exact U4.out _ _ | assumption | go_keep) ((fail));have TP:Sp ((set2 w10 A7.ga tp (2,some ⟨B3,0,none⟩,2,2)).drew.setCell ⟨A7.gr,t*2+1,none⟩ (.int .i64 tp)) S (A7.setN tp (2,some ⟨B3,0,none⟩,2,2)) gs:=PH.out.drew;have Lw:Frm (fun k=>k=A.ga∨k=A.gr) w ((set2 w10 A7.ga tp (2,some ⟨B3,0,none⟩,2,2)).drew.setCell ⟨A7.gr,t*2+1,none⟩ (.int .i64 tp)):=On.out.trans (Frm.drew _ _);have LZ:=aA (DV.out _ _ TP);have GW:=aA Lw;clear TP Lw Rj;generalize (set2 w10 A7.ga tp (2,some ⟨B3,0,none⟩,2,2)).drew=w12 at *;obtain⟨w13,R1⟩:=eZ (w12.setCell ⟨A7.gr,t*2+1,none⟩ (.int .i64 tp));rw[R1]at LZ GW;go_wp2_with fail;refine LZ.out.mono ?_;intro e w6 hz;obtain⟨v,rfl⟩:=hz.ret;have HZ:Hid (ZqP w S A (PU.map Prod.fst) (.returned (.bool v)) w6):=by
      show ZqP _ _ _ _ _ _
      rw[HP.out];exact hz.toQ GW.out (DB.out.trans (SaS.setN _ _ _))
     clear hz;go_wp2;go_ret;exact HZ.out
  ·have td:((es.length:Int) == 5)=false:=by rw[beq_eq_false_iff_ne];omega
   rw[td];rw[if_neg hf5]at rz;have DV:=aA (kZ (key:=key) (val:=val) H g r [] none none wk1 p1 trivial trivial (by unfold sz;rw[hd];simp only;omega) Kn BA.out w2 S A1 HX.out);clear hf5 td fx;go_wp2_with fail;refine DV.out.mono ?_;intro e w6 hz;obtain⟨v,rfl⟩:=hz.ret;have HZ:Hid (ZqP w S A (PU.map Prod.fst) (.returned (.bool v)) w6):=by
    show ZqP _ _ _ _ _ _
    rw[rz.out];exact hz.toQ HF.out HA.out
   clear hz;go_wp2;go_ret;exact HZ.out
structure MkP(w:World)(S:Nat)(A:SA)(b:Nat)(k:Int)(l:List E3)(r:Ending)(w':World):Prop where
 ex:∃x:NV,r=.returned (.slice x.2.1 x.2.2.1 x.2.2.2)∧x.1=k∧NdR w' x (k,l)
 bel:Bl w w'
 s1:w'.cell? ⟨S,1,none⟩=some (.slice (some ⟨A.ga,0,none⟩) A.ns.length (A.ns.length+A.nj.length))
 wr:∃k0 k1,w'.cell? ⟨A.ga,b*2,none⟩=some k0∧w'.cell? ⟨A.ga,b*2+1,none⟩=some k1∧w'.frozen? ⟨A.ga,b*2,none⟩=false∧w'.frozen? ⟨A.ga,b*2+1,none⟩=false
theorem Sp.made(h:Sp w S A f)(hb:b<f.cur.length){k:Int}{u:Value}(hu:yE.Own w.heap.size w' u l)(hB:Below w.heap.size w.drew w'):MkP w S A b k l (.returned u) w':=by
 obtain⟨x,rfl,h1,h2⟩:=hu.nv k;have Dc:Bl w w':=(bQ _ w).drew.trans hB;obtain⟨k0,k1,y1,y2,y3,y4,_⟩:=(h.below Dc).wr hb;exact⟨⟨x,rfl,h1,h2⟩,Dc,(h.below Dc).cells.2.1,k0,k1,y1,y2,y3,y4⟩
theorem Sp.joinM(h:Sp w S A f){v':Value}{fs:List E3}(hv:yE.Sl w v es)(np:yE.Sl w v' fs)(hl:es.length≤100)(Au:fs.length≤100)(k:Int)(hb:b<f.cur.length):Calls Tryz.prog 108 #[v,v'] w.drew (MkP w S A b k (es++fs)):=by
 refine(mO v v' es fs w.drew (hv.below (bQ _ w).drew) (np.below (bQ _ w).drew) hl Au).mono ?_;rintro r w1 ⟨u,rfl,hu,ao⟩;exact h.made hb hu ao
theorem Sp.withoutM(h:Sp w S A f)(hv:yE.Sl w v es)(hi:i<es.length)(hl:es.length≤100)(k:Int)(hb:b<f.cur.length):Calls Tryz.prog 96 #[v,.int .i64 i] w.drew (MkP w S A b k (delE es i)):=by
 refine(uC v es i w.drew (hv.below (bQ _ w).drew) hi hl).mono ?_;rintro r w1 ⟨u,rfl,hu,ao⟩;exact h.made hb hu ao
theorem Sp.swapM(h:Sp w S A f)(e:E3)(hv:yE.Sl w v es)(hi:i<es.length)(hl:es.length≤100)(k:Int)(hb:b<f.cur.length):Calls Tryz.prog 94 #[v,.int .i64 i,.agg #[.string e.1,.string e.2.1,.int .i64 e.2.2]] w.drew (MkP w S A b k (es.set i e)):=by
 refine(eR v es i e w.drew (hv.below (bQ _ w).drew) hi hl).mono ?_;rintro r w1 ⟨u,rfl,hu,ao⟩;exact h.made hb hu ao
theorem Sp.insM(h:Sp w S A f)(e:E3)(hv:yE.Sl w v es)(hi:i≤es.length)(hl:es.length≤100)(k:Int)(hb:b<f.cur.length):Calls Tryz.prog 109 #[v,.int .i64 i,.agg #[.string e.1,.string e.2.1,.int .i64 e.2.2]] w.drew (MkP w S A b k (insE es i e)):=by
 refine(nP v es i e w.drew (hv.below (bQ _ w).drew) hi hl).mono ?_;rintro r w1 ⟨u,rfl,hu,ao⟩;exact h.made hb hu ao
theorem Sp.slF(h:Sp w S A f)(hv:yE.Sl w v l)(hF:Frm (fun k=>k=A.ga) w w'):yE.Sl w' v l:=hv.frm hF fun g cs hg=>hg.type_ne h.v.nds.arr (by decide)
theorem sE{k:Int}{pes:List E3}(x:Nat)(d:Nd)(h:(mergeF g b c s k ces pes).nodes x=some d):(setN (setN g c (k,ces)) b (2,pes)).nodes x=some d:=by
 unfold mergeF at h;rw[cP]at h;split at h
 ·by_cases e:x=s
  ·rw[e,aD]at h;cases h
  ·rw[aC _ _ e]at h;exact h
 ·exact h
theorem pN(g:fZ)(b c s:Nat)(k:Int)(ces pes:List E3):(mergeF g b c s k ces pes).roots=g.roots:=by
 unfold mergeF letGo;split<;>rfl
theorem aKZ{W:World}{g q:Nat}{x v0 v1:Value}(av:s≠q)(h:W.cell? ⟨g,s*2+1,none⟩=some x):((W.setCell ⟨g,q*2,none⟩ v0).setCell ⟨g,q*2+1,none⟩ v1).drew.cell? ⟨g,s*2+1,none⟩=some x:=by
 rw[jD _ _ _ _ _ (.inr ⟨by omega,by omega⟩)];exact h
structure Wd(g:fZ)(b:Nat)(es:List E3)(i j:Nat)(k:Int)(ces ses:List E3):Prop where
 ic:IC g
 ve:VE g
 r16:g.roots.length≤16
 ent:∀b d,g.nodes b=some d→d.2.length≤5
 hb:g.nodes b=some (2,es)
 hi:i<es.length
 hj:j<es.length
 hc:g.nodes (kd es i)=some (k,ces)
 hs:g.nodes (kd es j)=some (k,ses)
 bc:b≠kd es i
 bs:b≠kd es j
 cs:kd es i≠kd es j
 c2:ces.length=2
 s2:2≤ses.length
theorem nT{k:Int}(h:Wd g b es i (i+1) k ces ses)(h2:ses.length=2)(w:World)(S:Nat)(A:SA)(hS:Sp w S A g):
  Calls Tryz.prog 95 #[.pointer (some ⟨S,0,none⟩),.int .i64 b,.int .i64 i] w fun e w'=>e=.returned (.bool true)∧Zt w S A (mergeF g b (kd es i) (kd es (i+1)) k (ces++ses) (delE es (i+1))) w':=by
 have sm:=gR;have re:=h.ent b _ h.hb;simp only at re;have d9:=h.ic.lt h.hb;have au:=h.ic.lt h.hc;obtain⟨v0,_⟩:=h.ve.inner h.ic h.hb h.hi;obtain⟨v1,_⟩:=h.ve.inner h.ic h.hb h.hj;obtain⟨_,s1,_⟩:=hS.cells;obtain⟨a,cp,eS,xk,_,_,c1,_⟩:=hS.v.nds.at h.hb;obtain⟨ac,cpc,fx,JD,_,d0,d1,_⟩:=hS.v.nds.at h.hc;obtain⟨as1,cps,rq,Rn,_,_,e1,_⟩:=hS.v.nds.at h.hs;simp only at eS c1 fx d0 d1 rq e1;obtain⟨g0,o0,cc,he,vm,aa⟩:=dZ eS (by have:=h.hi;omega);cases he;obtain⟨_,_,x2⟩:=aa w i rfl h.hi;have av:g0≠A.ga:=by
  rcases eS with⟨q,_⟩ | ⟨g',o',cap',xs,q,q1,_⟩
  ·cases q
  ·cases q;exact q1.type_ne hS.v.nds.arr (by decide)
 rw[v0]at x2;obtain⟨B,hB⟩:=eZ (w.heap.size);obtain⟨w0,mz⟩:=eZ (w.alloc (.cells #[.int .i64 k,.slice ac ces.length cpc] 108));have gz:=bAl mz;have bj:=iNw mz hB;obtain⟨_,_,y2⟩:=aa w0 (i+1) (gz.block _ vm) h.hj;rw[v1]at y2;have kg:=hS.below gz;obtain⟨_,t1,_⟩:=kg.cells;have e10:w0.cell? ⟨A.ga,kd es (i+1)*2+1,none⟩=some (.slice as1 ses.length cps):=(gz.cell (p:=⟨A.ga,_,none⟩) hS.v.nds.arr.lt).trans e1;have b0:w0.cell? ⟨B,0,none⟩=some (.int .i64 k):=bj.c rfl;have b1:w0.cell? ⟨B,1,none⟩=some (.slice ac ces.length cpc):=bj.c rfl;have wl:S≠A.ga:=hS.box.type_ne hS.v.nds.arr (by decide);have zx:B≠A.ga:=by have:=hS.v.nds.arr.lt;omega
 have E6:(b:Int) <(A.ns.length:Int):=by omega
 have Fs:(kd es i:Int) <(A.ns.length:Int):=by omega
 have GH:(kd es (i+1):Int) <(A.ns.length:Int):=by omega
 have Jj:(i:Int) <(es.length:Int):=by have:=h.hi;omega
 obtain⟨i1,jd⟩:=eZ (i+1);have wt:IntKind.i64.wrap ((i:Int)+1)=(i1:Int):=(IntWalk.i64_in _ ⟨by omega,by omega⟩).trans (by omega);have Qy:(i1:Int) <(es.length:Int):=by have:=h.hj;omega
 have xx:((ses.length:Int) == 2)=true:=by rw[h2];rfl
 have HJ:=aA (kg.joinM (fx.below gz) (rq.below gz) (by have:=h.c2;omega) (by omega) k au);have BC:=aA fun(A1:SA) (f1:fZ) (w1:World) (h1:Sp w1 S A1 f1) (hF:Frm (fun k=>k=A.ga) w w1) (hl:b<f1.cur.length)=>h1.withoutM (hS.slF eS hF) h.hj (by omega) 2 hl;have lh:=aA kg;have FN:=aA gz;have hX:Hid (kd es (i+1)≠kd es i):=h.cs.symm;have yu:Hid (∀w1,Bl w0 w1→w1.cell? ⟨B,0,none⟩=some (.int .i64 k)∧w1.cell? ⟨B,1,none⟩=some (.slice ac ces.length cpc)∧w1.cell? ⟨A.ga,kd es (i+1)*2+1,none⟩=some (.slice as1 ses.length cps)):=fun w1 hb=>by
  refine⟨?_,?_,?_⟩
  ·rw[(bj.of (hb.block _ bj.lt)).cell];rfl
  ·rw[(bj.of (hb.block _ bj.lt)).cell];rfl
  ·exact(hb.cell (p:=⟨A.ga,_,none⟩) kg.v.nds.arr.lt).trans e10
 rw[jd]at y2 e10 GH BC hX yu;rw[jd];obtain⟨q,hq⟩:=eZ (kd es i);obtain⟨s,hs⟩:=eZ (kd es i1);rw[hq]at x2 d0 d1 Fs HJ hX au;rw[hs]at y2 e10 GH hX yu;rw[hq,hs];clear aa fx rq bj kg v0 v1 hq hs jd h2;go_enter Tryz.func95,Tryz.ntmps95;go_wp2;go_region_held3 (fun W=>W.cell? ⟨S,1,none⟩=some (.slice (some ⟨A.ga,0,none⟩) A.ns.length (A.ns.length+A.nj.length))∧W.cell? ⟨B,0,none⟩=some (.int .i64 k)∧W.cell? ⟨B,1,none⟩=some (.slice ac ces.length cpc)∧W.cell? ⟨A.ga,s*2+1,none⟩=some (.slice as1 ses.length cps)) (first | assumption | go_keep | exact⟨de,fz,vy,CM⟩ | exact⟨bU wl de,bU zx fz,bU zx vy,aKZ hX.out CM⟩) ((go_at_call 108;refine HJ.out.mono ?_;rintro r w1 ⟨⟨y,rfl,C8,zi⟩,ao,de,k0,k1,gp,fw,jh,gh⟩;obtain⟨fz,vy,CM⟩:=yu.out w1 ao));rw[dI C8];obtain⟨⟨A2,ax,DG⟩,du⟩:=lh.out.store ao au zi;have zz:Frm (fun k=>k=A.ga) w (set2 w1 A.ga q y):=(Frm.of_below FN.out).trans du;have H9:=aA (BC.out A2 _ _ ax zz (show b<g.cur.length from d9));have sg:=aA zz;have pw:=aA ax;have t2:=ax.cells.2.1;have If:S≠A2.ga:=by rw[DG.ga];exact wl
 have QC:(b:Int) <(A2.ns.length:Int):=by have:=ax.v.ln;have:A2.ns.length=g.cur.length:=this;omega
 have vb:Hid (∀x d,(mergeF g b q s k (ces++ses) (delE es i1)).nodes x=some d→(setN (setN g q (k,ces++ses)) b (2,delE es i1)).nodes x=some d):=fun x d hx=>sE x d hx;have zo:Hid (Fin (setN g q (k,ces++ses)) (mergeF g b q s k (ces++ses) (delE es i1)) b (2,delE es i1)):=⟨vb.out,(aX.mergeF ..).cur,pN ..,(aX.mergeF ..).next,(aX.mergeF ..).gen,(aX.mergeF ..).com⟩;generalize set2 w1 A.ga q y=w2 at *;clear de fz vy CM gp fw jh gh zi du zz ax BC yu HJ;go_wp2;go_region_held3 (fun W=>W.cell? ⟨S,1,none⟩=some (.slice (some ⟨A2.ga,0,none⟩) A2.ns.length (A2.ns.length+A2.nj.length))) (first | assumption | go_keep | exact bU If de) ((go_at_call 96;refine H9.out.mono ?_;rintro r w3 ⟨⟨z,rfl,Ay,GQ⟩,bx,de,k0,k1,gp,fw,jh,gh⟩));rw[dI Ay];have HR:Hid (Zt w S A (mergeF g b q s k (ces++ses) (delE es i1)) (set2 w3 A2.ga b z)):=Zt.trans sg.out DG (pw.out.fin bx (show b<g.cur.length from d9) GQ zo.out);clear de gp fw jh gh;go_wp2;go_ret;exact⟨rfl,HR.out⟩
theorem nS{k:Int}(h:Wd g b es (j+1) j k ces ses)(OV:¬j+1+1<es.length)(h2:ses.length=2)(w:World)(S:Nat)(A:SA)(hS:Sp w S A g):
  Calls Tryz.prog 95 #[.pointer (some ⟨S,0,none⟩),.int .i64 b,.int .i64 ((j+1:Nat):Int)] w fun e w'=>e=.returned (.bool true)∧Zt w S A (mergeF g b (kd es (j+1)) (kd es j) k (ses++ces) (delE (es.set (j+1) (ky es j,.empty,(kd es (j+1):Int))) j)) w':=by
 have sm:=gR;have Fr:=iS;obtain⟨i,g8⟩:=eZ (j+1);rw[g8]at h OV ⊢;have re:=h.ent b _ h.hb;simp only at re;have d9:=h.ic.lt h.hb;have au:=h.ic.lt h.hc;obtain⟨v0,_⟩:=h.ve.inner h.ic h.hb h.hi;obtain⟨v1,_⟩:=h.ve.inner h.ic h.hb h.hj;obtain⟨_,s1,_⟩:=hS.cells;obtain⟨a,cp,eS,xk,_,_,c1,_⟩:=hS.v.nds.at h.hb;obtain⟨ac,cpc,fx,JD,_,d0,d1,_⟩:=hS.v.nds.at h.hc;obtain⟨as1,cps,rq,Rn,_,_,e1,_⟩:=hS.v.nds.at h.hs;simp only at eS c1 fx d0 d1 rq e1;obtain⟨g0,o0,cc,he,vm,aa⟩:=dZ eS (by have:=h.hi;omega);cases he;obtain⟨_,_,x2⟩:=aa w i rfl h.hi;have av:g0≠A.ga:=by
  rcases eS with⟨q,_⟩ | ⟨g',o',cap',xs,q,q1,_⟩
  ·cases q
  ·cases q;exact q1.type_ne hS.v.nds.arr (by decide)
 rw[v0]at x2;obtain⟨B,hB⟩:=eZ (w.heap.size);obtain⟨w0,mz⟩:=eZ (w.alloc (.cells #[.int .i64 k,.slice ac ces.length cpc] 108));have gz:=bAl mz;have bj:=iNw mz hB;obtain⟨y0,_,y2⟩:=aa w0 j (gz.block _ vm) h.hj;rw[v1]at y0 y2;have kg:=hS.below gz;obtain⟨_,t1,_⟩:=kg.cells;have e10:w0.cell? ⟨A.ga,kd es j*2+1,none⟩=some (.slice as1 ses.length cps):=(gz.cell (p:=⟨A.ga,_,none⟩) hS.v.nds.arr.lt).trans e1;have b0:w0.cell? ⟨B,0,none⟩=some (.int .i64 k):=bj.c rfl;have b1:w0.cell? ⟨B,1,none⟩=some (.slice ac ces.length cpc):=bj.c rfl;have wl:S≠A.ga:=hS.box.type_ne hS.v.nds.arr (by decide);have zx:B≠A.ga:=by have:=hS.v.nds.arr.lt;omega
 have E6:(b:Int) <(A.ns.length:Int):=by omega
 have Fs:(kd es i:Int) <(A.ns.length:Int):=by omega
 have GH:(kd es j:Int) <(A.ns.length:Int):=by omega
 have Jj:(i:Int) <(es.length:Int):=by have:=h.hi;omega
 have Gv:=h.hi;have AN:=h.hj;obtain⟨i2,AM⟩:=eZ (i+1);have wt:IntKind.i64.wrap ((i:Int)+1)=(i2:Int):=(IntWalk.i64_in _ ⟨by omega,by omega⟩).trans (by omega);have Xd:IntKind.i64.wrap ((i:Int)-1)=(j:Int):=(IntWalk.i64_in _ ⟨by omega,by omega⟩).trans (by omega);have Qz:¬((i2:Int) <(es.length:Int)):=by omega
 have Jl:(j:Int) <(es.length:Int):=by omega
 have xx:((ses.length:Int) == 2)=true:=by rw[h2];rfl
 have HJ:=aA (kg.joinM (rq.below gz) (fx.below gz) (by omega) (by have:=h.c2;omega) k au);have yx:=aA fun(w1:World) (hF:Frm (fun k=>k=A.ga) w w1)=>eR _ es i (ky es j,.empty,(kd es i:Int)) w1 (hS.slF eS hF) h.hi (by omega);have tq:=aA fun(w1:World) (hF:Frm (fun k=>k=A.ga) w w1)=>(aa w1 j (hF.block g0 vm av) h.hj).1;have lh:=aA kg;have FN:=aA gz;have hX:Hid (kd es j≠kd es i):=h.cs.symm;have yu:Hid (∀w1,Bl w0 w1→w1.cell? ⟨B,0,none⟩=some (.int .i64 k)∧w1.cell? ⟨B,1,none⟩=some (.slice ac ces.length cpc)∧w1.cell? ⟨A.ga,kd es j*2+1,none⟩=some (.slice as1 ses.length cps)):=fun w1 hb=>by
  refine⟨?_,?_,?_⟩
  ·rw[(bj.of (hb.block _ bj.lt)).cell];rfl
  ·rw[(bj.of (hb.block _ bj.lt)).cell];rfl
  ·exact(hb.cell (p:=⟨A.ga,_,none⟩) kg.v.nds.arr.lt).trans e10
 obtain⟨q,hq⟩:=eZ (kd es i);obtain⟨s,hs⟩:=eZ (kd es j);rw[hq]at x2 d0 d1 Fs HJ hX au yx;rw[hs]at y2 e10 GH hX yu;rw[hq,hs];clear aa fx rq bj kg v0 v1 hq hs AM h2 g8;go_enter Tryz.func95,Tryz.ntmps95;go_wp2;go_region_held3 (fun W=>W.cell? ⟨S,1,none⟩=some (.slice (some ⟨A.ga,0,none⟩) A.ns.length (A.ns.length+A.nj.length))∧W.cell? ⟨B,0,none⟩=some (.int .i64 k)∧W.cell? ⟨B,1,none⟩=some (.slice ac ces.length cpc)∧W.cell? ⟨A.ga,s*2+1,none⟩=some (.slice as1 ses.length cps)) (first | assumption | go_keep | exact⟨de,fz,vy,CM⟩ | exact⟨bU wl de,bU zx fz,bU zx vy,aKZ hX.out CM⟩) ((go_at_call 108;refine HJ.out.mono ?_;rintro r w1 ⟨⟨y,rfl,C8,zi⟩,ao,de,k0,k1,gp,fw,jh,gh⟩;obtain⟨fz,vy,CM⟩:=yu.out w1 ao));rw[dI C8];obtain⟨⟨A2,ax,DG⟩,du⟩:=lh.out.store ao au zi;have zz:Frm (fun k=>k=A.ga) w (set2 w1 A.ga q y):=(Frm.of_below FN.out).trans du;have Cd:=aA (yx.out _ zz);have yk:(set2 w1 A.ga q y).cell? ⟨g0,o0+j*3,none⟩=some (.string (ky es j)):=tq.out _ zz;have sg:=aA zz;have pw:=aA ax;have If:S≠A2.ga:=by rw[DG.ga];exact wl
 have QC:(b:Int) <(A2.ns.length:Int):=by have:=ax.v.ln;have:A2.ns.length=g.cur.length:=this;omega
 have zo:Hid (Fin (setN g q (k,ses++ces)) (mergeF g b q s k (ses++ces) (delE (es.set i (ky es j,.empty,(q:Int))) j)) b (2,delE (es.set i (ky es j,.empty,(q:Int))) j)):=⟨fun x d hx=>sE x d hx,(aX.mergeF ..).cur,pN ..,(aX.mergeF ..).next,(aX.mergeF ..).gen,(aX.mergeF ..).com⟩;generalize set2 w1 A.ga q y=w2 at *;clear de fz vy CM gp fw jh gh zi du zz ax yx yu HJ tq;go_wp2_with fail;refine Cd.out.mono ?_;rintro r w4 ⟨u,rfl,hu,kw⟩;obtain⟨ua,uc,rfl⟩:=hu.sl.len;have aw:=pw.out.below kw;have t4:=aw.cells.2.1;have H9:=aA (aw.withoutM (i:=j) hu.sl (by simp;omega) (by simp;omega) 2 (show b<g.cur.length from d9));have FQ:=aA aw;simp only[List.length_set]at *;clear aw hu;go_wp2;go_region_held3 (fun W=>W.cell? ⟨S,1,none⟩=some (.slice (some ⟨A2.ga,0,none⟩) A2.ns.length (A2.ns.length+A2.nj.length))) (first | assumption | go_keep | exact bU If de) ((go_at_call 96;refine H9.out.mono ?_;rintro r w3 ⟨⟨z,rfl,Ay,GQ⟩,bx,de,k0,k1,gp,fw,jh,gh⟩));rw[dI Ay];have HR:Hid (Zt w S A (mergeF g b q s k (ses++ces) (delE (es.set i (ky es j,.empty,(q:Int))) j)) (set2 w3 A2.ga b z)):=Zt.trans (sg.out.trans (Frm.of_below kw)) DG (FQ.out.fin bx (show b<g.cur.length from d9) GQ zo.out);clear de gp fw jh gh;go_wp2;go_ret;exact⟨rfl,HR.out⟩
theorem oX{k:Int}(h:Wd g b es i (i+1) k ces ses)(h2:2<ses.length)(w:World)(S:Nat)(A:SA)(hS:Sp w S A g):
  Calls Tryz.prog 95 #[.pointer (some ⟨S,0,none⟩),.int .i64 b,.int .i64 i] w (ZpP w S A ((shadow g (.ent b (i+1))).map fun p=>moveF p.1 b (kd es i) p.2 k (ces++ses.take 1) (ses.drop 1) (es.set (i+1) (ky ses 1,.empty,(p.2:Int))))):=by
 have sm:=gR;have Fr:=iS;have re:=h.ent b _ h.hb;simp only at re;have d9:=h.ic.lt h.hb;have au:=h.ic.lt h.hc;obtain⟨v0,_⟩:=h.ve.inner h.ic h.hb h.hi;obtain⟨v1,_⟩:=h.ve.inner h.ic h.hb h.hj;obtain⟨_,s1,_⟩:=hS.cells;obtain⟨a,cp,eS,xk,_,_,c1,_⟩:=hS.v.nds.at h.hb;obtain⟨ac,cpc,fx,JD,_,d0,d1,_⟩:=hS.v.nds.at h.hc;obtain⟨as1,cps,rq,Rn,_,_,e1,_⟩:=hS.v.nds.at h.hs;simp only at eS c1 fx d0 d1 rq e1;obtain⟨g0,o0,cc,he,vm,aa⟩:=dZ eS (by have:=h.hi;omega);cases he;obtain⟨_,_,x2⟩:=aa w i rfl h.hi;have av:g0≠A.ga:=by
  rcases eS with⟨q,_⟩ | ⟨g',o',cap',xs,q,q1,_⟩
  ·cases q
  ·cases q;exact q1.type_ne hS.v.nds.arr (by decide)
 rw[v0]at x2;obtain⟨B,hB⟩:=eZ (w.heap.size);obtain⟨w0,mz⟩:=eZ (w.alloc (.cells #[.int .i64 k,.slice ac ces.length cpc] 108));have gz:=bAl mz;have bj:=iNw mz hB;obtain⟨_,_,y2⟩:=aa w0 (i+1) (gz.block _ vm) h.hj;rw[v1]at y2;have kg:=hS.below gz;obtain⟨_,t1,_⟩:=kg.cells;have e10:w0.cell? ⟨A.ga,kd es (i+1)*2+1,none⟩=some (.slice as1 ses.length cps):=(gz.cell (p:=⟨A.ga,_,none⟩) hS.v.nds.arr.lt).trans e1;have b0:w0.cell? ⟨B,0,none⟩=some (.int .i64 k):=bj.c rfl;have b1:w0.cell? ⟨B,1,none⟩=some (.slice ac ces.length cpc):=bj.c rfl;have wl:S≠A.ga:=hS.box.type_ne hS.v.nds.arr (by decide);have zx:B≠A.ga:=by have:=hS.v.nds.arr.lt;omega
 have E6:(b:Int) <(A.ns.length:Int):=by omega
 have Fs:(kd es i:Int) <(A.ns.length:Int):=by omega
 have GH:(kd es (i+1):Int) <(A.ns.length:Int):=by omega
 have Jj:(i:Int) <(es.length:Int):=by have:=h.hi;omega
 obtain⟨i1,jd⟩:=eZ (i+1);have wt:IntKind.i64.wrap ((i:Int)+1)=(i1:Int):=(IntWalk.i64_in _ ⟨by omega,by omega⟩).trans (by omega);have Qy:(i1:Int) <(es.length:Int):=by have:=h.hj;omega
 have xx:((ses.length:Int) == 2)=false:=by rw[beq_eq_false_iff_ne];omega
 have C3:=h.ent _ _ h.hs;simp only at C3;have FH:=fun g' c' (q:shadow g (.ent b (i+1))=some (g',c'))=>dB h.ic h.ve h.hb h.hj h.hs q;have yw:=aA (gV h.ic (fun b d hd=>(by have:=h.ent b d hd;omega:d.2.length≤10)) h.ve w0 S A kg h.r16 b (i+1) es h.hb h.hj);have Ka:=aA fun(w1:World) (hF:Frm (fun k=>k=A.ga) w w1)=>hS.slF eS hF;have H6:=aA fun(w1:World) (hF:Frm (fun k=>k=A.ga) w w1)=>hS.slF fx hF;have lh:=aA kg;have FN:=aA gz;have hX:Hid (kd es (i+1)≠kd es i):=h.cs.symm;have yu:Hid (∀w1,Bl w0 w1→w1.cell? ⟨B,0,none⟩=some (.int .i64 k)∧w1.cell? ⟨B,1,none⟩=some (.slice ac ces.length cpc)∧w1.cell? ⟨A.ga,kd es (i+1)*2+1,none⟩=some (.slice as1 ses.length cps)):=fun w1 hb=>by
  refine⟨?_,?_,?_⟩
  ·rw[(bj.of (hb.block _ bj.lt)).cell];rfl
  ·rw[(bj.of (hb.block _ bj.lt)).cell];rfl
  ·exact(hb.cell (p:=⟨A.ga,_,none⟩) kg.v.nds.arr.lt).trans e10
 rw[jd]at y2 e10 GH hX yw FH;rw[jd];obtain⟨q,hq⟩:=eZ (kd es i);obtain⟨s,hs⟩:=eZ (kd es i1);have OR:=h.hs;have Gu:=h.hc;have AL:=h.cs;have nz:=h.bc;rw[jd]at OR AL;rw[hq]at x2 d0 d1 Fs hX au Gu AL nz;rw[hs]at y2 e10 GH hX yw OR AL FH;rw[hq];have Ub:Hid (i1<es.length):=by show i1<_;rw[←jd];exact h.hj
 have Hv:=aA bj;clear aa fx rq bj kg v0 v1 hq hs jd yu;go_enter Tryz.func95,Tryz.ntmps95;go_wp2_with fail;refine yw.out.mono ?_;intro r w3 hz;obtain⟨bu,uw,uy⟩:=hz;cases al:shadow g (.ent b i1)with
 | none=>
  obtain rfl:=uw al;have FR:=aA al;clear uw uy al;go_wp2;go_ret;rw[FR.out];exact⟨fun _=>⟨rfl,(Frm.of_below FN.out).trans bu⟩,fun g q=>by cases q⟩
 | some gc=>
  obtain⟨g',c'⟩:=gc;obtain⟨rfl,A3,f3,cy,BE,ul,be⟩:=uy g' c' al;obtain⟨n1,n2,n3,n4,n5,n6⟩:=FH g' c' al;have GF:q≠c':=n4 q _ Gu AL;have Ko:f3.nodes c'=some (k,ses):=by
   have:=be.sub c' _ n1
   have e:(setN f3 b (2,es.set i1 (ky es i1,.empty,(c':Int)))).nodes c'=f3.nodes c':=aC _ _ n2;rw[e]at this;exact this
  have Fc:Frm (fun k=>k=A.ga) w w3:=(Frm.of_below FN.out).trans bu;have EW:f3.cur.length=g.cur.length:=ul;obtain⟨_,t3,_⟩:=cy.cells;obtain⟨as3,cps3,lz,Ro,_,_,f1,Ft⟩:=cy.v.nds.at Ko;simp only at lz f1 Ft;obtain⟨gs,os,cs3',JY,Bf,la⟩:=dZ lz (by omega);cases JY;have Ji:gs≠A3.ga:=by
   rcases lz with⟨q,_⟩ | ⟨g',o',cap',xs,q,q1,_⟩
   ·cases q
   ·cases q;exact q1.type_ne cy.v.nds.arr (by decide)
  have xe:B≠A3.ga:=by rw[BE.ga];exact zx
  have ki:IsC w3 B #[.int .i64 k,.slice ac ces.length cpc] 108:=Hv.out.frm bu zx;have Ds:S≠A3.ga:=by rw[BE.ga];exact wl
  have EJ:(1:Int)≤(cps3:Int):=by omega
  have zc:¬((c':Int)<0):=by omega
  have QN:(c':Int) <(A3.ns.length:Int):=by omega
  have Rd:(q:Int) <(A3.ns.length:Int):=by have:=cy.v.ln;omega
  have HJ:=aA (cy.joinM (H6.out w3 Fc) (lz.takeN 1 (by omega) cps3) (by have:=h.c2;omega) (by simp;omega) k (b:=q) (by omega));have p0:w3.cell? ⟨B,0,none⟩=some (.int .i64 k):=ki.c rfl;have p1:w3.cell? ⟨B,1,none⟩=some (.slice ac ces.length cpc):=ki.c rfl;have yu:Hid (∀w1,Bl w3 w1→w1.cell? ⟨B,0,none⟩=some (.int .i64 k)∧w1.cell? ⟨B,1,none⟩=some (.slice ac ces.length cpc)):=fun w1 hb=>by
   refine⟨?_,?_⟩
   ·rw[(ki.of (hb.block _ ki.lt)).cell];rfl
   ·rw[(ki.of (hb.block _ ki.lt)).cell];rfl
  have Sf:=aA cy;have SP:=aA la;have O9:=aA lz;have Oj:=aA ki;clear uw uy la lz FH;go_wp2;go_region_held3 (fun W=>W.cell? ⟨S,1,none⟩=some (.slice (some ⟨A3.ga,0,none⟩) A3.ns.length (A3.ns.length+A3.nj.length))∧W.cell? ⟨B,0,none⟩=some (.int .i64 k)∧W.cell? ⟨B,1,none⟩=some (.slice ac ces.length cpc)) (first | assumption | go_keep | exact⟨de,fz,vy⟩ | exact⟨bU Ds de,bU xe fz,bU xe vy⟩) ((go_at_call 108;refine HJ.out.mono ?_;rintro r w4 ⟨⟨y,rfl,C8,zi⟩,kw,de,k0,k1,gp,fw,jh,gh⟩;obtain⟨fz,vy⟩:=yu.out w4 kw));rw[dI C8];obtain⟨⟨A5,cq,zw⟩,er⟩:=Sf.out.store (q:=q) kw (by omega) zi;have Ee:=Sf.out.slF O9.out er;have q9:IsC (set2 w4 A3.ga q y) B #[.int .i64 k,.slice ac ces.length cpc] 108:=Oj.out.frm er xe;have Gx:(setN f3 q (k,ces++ses.take 1)).cur.length=g.cur.length:=EW;have PY:B≠A5.ga:=by rw[zw.ga];exact xe
  have MG:S≠A5.ga:=by rw[zw.ga];exact Ds
  have BC:=aA (cq.withoutM (i:=0) Ee (by omega) (by omega) k (b:=c') (by omega));have t5:=cq.cells.2.1;have p5:(set2 w4 A3.ga q y).cell? ⟨B,0,none⟩=some (.int .i64 k):=q9.c rfl;have V8:(c':Int) <(A5.ns.length:Int):=by have:=cq.v.ln;omega
  have uz:=aA er;have CB:=aA cq;have PC:=aA Ee;have Hw:=aA q9;obtain⟨w5,sf⟩:=eZ (set2 w4 A3.ga q y);rw[sf]at CB PC BC uz t5 p5 Hw;rw[sf];have DE:Hid (∀w1,Bl w5 w1→w1.cell? ⟨B,0,none⟩=some (.int .i64 k)):=fun w1 hb=>by rw[(Hw.out.of (hb.block _ Hw.out.lt)).cell];rfl
  clear de fz vy gp fw jh gh zi er cq Ee q9 HJ yu sf;go_wp2;go_region_held3 (fun W=>W.cell? ⟨S,1,none⟩=some (.slice (some ⟨A5.ga,0,none⟩) A5.ns.length (A5.ns.length+A5.nj.length))∧W.cell? ⟨B,0,none⟩=some (.int .i64 k)) (first | assumption | go_keep | exact⟨de,fz⟩ | exact⟨bU MG de,bU PY fz⟩) ((go_at_call 96;refine BC.out.mono ?_;rintro r w6 ⟨⟨z,rfl,Ay,GQ⟩,ke,de,k0,k1,gp,fw,jh,gh⟩;have fz:=DE.out w6 ke));rw[dI Ay];obtain⟨⟨A7,it,Db⟩,Ak⟩:=CB.out.store (q:=c') ke (by omega) GQ;have QZ:delE ses 0=ses.drop 1:=by simp[delE]
  rw[QZ]at it;have FY:Frm (fun k=>k=A3.ga) w3 (set2 w6 A5.ga c' z):=uz.out.trans (Ak.wide fun k _ e=>e.trans zw.ga);have IQ:Frm (fun k=>k=A.ga) w (set2 w6 A5.ga c' z):=Fc.trans (FY.wide fun k _ e=>e.trans BE.ga);have Eg:=Ka.out _ IQ;obtain⟨z0,_,_⟩:=SP.out (set2 w6 A5.ga c' z) 1 (FY.block gs Bf Ji) (by omega);have RC:(ses.getD 1 e0).1=ky ses 1:=rfl;rw[RC,Nat.one_mul]at z0;have Kx:(setN (setN f3 q (k,ces++ses.take 1)) c' (k,ses.drop 1)).cur.length=g.cur.length:=EW;have Dt:S≠A7.ga:=by rw[Db.ga];exact MG
  have t7:=it.cells.2.1;have MS:(b:Int) <(A7.ns.length:Int):=by have:=it.v.ln;omega
  have XM:(1:Int) <(ses.length:Int):=by omega
  have yx:=aA (it.swapM (i:=i1) (ky ses 1,.empty,(c':Int)) Eg Ub.out (by omega) 2 (b:=b) (by omega));have zo:Hid (Fin (setN (setN f3 q (k,ces++ses.take 1)) c' (k,ses.drop 1)) (moveF g' b q c' k (ces++ses.take 1) (ses.drop 1) (es.set i1 (ky ses 1,.empty,(c':Int)))) b (2,es.set i1 (ky ses 1,.empty,(c':Int)))):=by
   refine⟨fun x d' hx=>?_,be.len,be.roots,be.next,be.gen,be.com⟩;have bq:upd (upd (upd g'.nodes q (some (k,ces++ses.take 1))) c' (some (k,ses.drop 1))) b (some (2,es.set i1 (ky ses 1,.empty,(c':Int)))) x=some d':=hx;show upd (upd (upd f3.nodes q (some (k,ces++ses.take 1))) c' (some (k,ses.drop 1))) b (some (2,es.set i1 (ky ses 1,.empty,(c':Int)))) x=some d'
   by_cases e1:x=b
   ·rw[e1,aD]at bq ⊢;exact bq
   ·rw[aC _ _ e1]at bq ⊢
    by_cases e2:x=c'
    ·rw[e2,aD]at bq ⊢;exact bq
    ·rw[aC _ _ e2]at bq ⊢
     by_cases e3:x=q
     ·rw[e3,aD]at bq ⊢;exact bq
     ·rw[aC _ _ e3]at bq ⊢
      have:=be.sub x d' bq
      have e:(setN f3 b (2,es.set i1 (ky es i1,.empty,(c':Int)))).nodes x=f3.nodes x:=aC _ _ e1;rw[e]at this;exact this
  have Ou:=aA IQ;have DB:Hid (SaS A A7):=(BE.trans zw).trans Db;have Uv:=aA it;have FR:=aA al;have Qu:gs≠A7.ga:=by rw[Db.ga,zw.ga];exact Ji
  have Mn:gs <(set2 w6 A5.ga c' z).heap.size:=lL Bf FY.size;generalize set2 w6 A5.ga c' z=w7 at *;have U6:Hid (∀w1,Bl w7 w1→w1.cell? ⟨gs,os+3,none⟩=some (.string (ky ses 1))):=fun w1 hb=>(hb.cell (p:=⟨gs,_,none⟩) Mn).trans z0;clear de fz gp fw jh gh GQ Ak it Eg BC DE FY IQ al;go_wp2;go_region_held3 (fun W=>W.cell? ⟨S,1,none⟩=some (.slice (some ⟨A7.ga,0,none⟩) A7.ns.length (A7.ns.length+A7.nj.length))∧W.cell? ⟨gs,os+3,none⟩=some (.string (ky ses 1))) (first | assumption | go_keep | exact⟨de,fz⟩ | exact⟨bU Dt de,bU Qu fz⟩) ((go_at_call 94;refine yx.out.mono ?_;rintro r w8 ⟨⟨x,rfl,zh,Ad⟩,oo,de,k0,k1,gp,fw,jh,gh⟩;have fz:=U6.out w8 oo));rw[dI zh];have HR:Hid (Zt w S A (moveF g' b q c' k (ces++ses.take 1) (ses.drop 1) (es.set i1 (ky ses 1,.empty,(c':Int)))) (set2 w8 A7.ga b x)):=Zt.trans Ou.out DB.out (Uv.out.fin oo (by omega) Ad zo.out);clear de fz gp fw jh gh;go_wp2;go_ret;rw[FR.out];exact⟨fun q=>(by cases q),fun g2 q2=>(by simp only[Option.map_some,sJ]at q2;subst q2;exact⟨rfl,HR.out⟩)⟩
theorem oW{k:Int}(h:Wd g b es (j+1) j k ces ses)(OV:¬j+1+1<es.length)(h2:2<ses.length)(w:World)(S:Nat)(A:SA)(hS:Sp w S A g):
  Calls Tryz.prog 95 #[.pointer (some ⟨S,0,none⟩),.int .i64 b,.int .i64 ((j+1:Nat):Int)] w (ZpP w S A ((shadow g (.ent b j)).map fun p=>moveF p.1 b p.2 (kd es (j+1)) k (ses.take (ses.length-1)) (ses.drop (ses.length-1)++ces) ((es.set (j+1) (ky ses (ses.length-1),.empty,(kd es (j+1):Int))).set j (ky es j,.empty,(p.2:Int))))):=by
 have sm:=gR;have Fr:=iS;obtain⟨i,g8⟩:=eZ (j+1);rw[g8]at h OV ⊢;have re:=h.ent b _ h.hb;simp only at re;have d9:=h.ic.lt h.hb;have au:=h.ic.lt h.hc;obtain⟨v0,_⟩:=h.ve.inner h.ic h.hb h.hi;obtain⟨v1,_⟩:=h.ve.inner h.ic h.hb h.hj;obtain⟨_,s1,_⟩:=hS.cells;obtain⟨a,cp,eS,xk,_,_,c1,_⟩:=hS.v.nds.at h.hb;obtain⟨ac,cpc,fx,JD,_,d0,d1,_⟩:=hS.v.nds.at h.hc;obtain⟨as1,cps,rq,Rn,_,_,e1,_⟩:=hS.v.nds.at h.hs;simp only at eS c1 fx d0 d1 rq e1;obtain⟨g0,o0,cc,he,vm,aa⟩:=dZ eS (by have:=h.hi;omega);cases he;obtain⟨_,_,x2⟩:=aa w i rfl h.hi;have av:g0≠A.ga:=by
  rcases eS with⟨q,_⟩ | ⟨g',o',cap',xs,q,q1,_⟩
  ·cases q
  ·cases q;exact q1.type_ne hS.v.nds.arr (by decide)
 rw[v0]at x2;obtain⟨B,hB⟩:=eZ (w.heap.size);obtain⟨w0,mz⟩:=eZ (w.alloc (.cells #[.int .i64 k,.slice ac ces.length cpc] 108));have gz:=bAl mz;have bj:=iNw mz hB;obtain⟨_,_,y2⟩:=aa w0 j (gz.block _ vm) h.hj;rw[v1]at y2;have kg:=hS.below gz;obtain⟨_,t1,_⟩:=kg.cells;have e10:w0.cell? ⟨A.ga,kd es j*2+1,none⟩=some (.slice as1 ses.length cps):=(gz.cell (p:=⟨A.ga,_,none⟩) hS.v.nds.arr.lt).trans e1;have b0:w0.cell? ⟨B,0,none⟩=some (.int .i64 k):=bj.c rfl;have b1:w0.cell? ⟨B,1,none⟩=some (.slice ac ces.length cpc):=bj.c rfl;have wl:S≠A.ga:=hS.box.type_ne hS.v.nds.arr (by decide);have zx:B≠A.ga:=by have:=hS.v.nds.arr.lt;omega
 have E6:(b:Int) <(A.ns.length:Int):=by omega
 have Fs:(kd es i:Int) <(A.ns.length:Int):=by omega
 have GH:(kd es j:Int) <(A.ns.length:Int):=by omega
 have Jj:(i:Int) <(es.length:Int):=by have:=h.hi;omega
 have Gv:=h.hi;have AN:=h.hj;obtain⟨i2,AM⟩:=eZ (i+1);have wt:IntKind.i64.wrap ((i:Int)+1)=(i2:Int):=(IntWalk.i64_in _ ⟨by omega,by omega⟩).trans (by omega);have Xd:IntKind.i64.wrap ((i:Int)-1)=(j:Int):=(IntWalk.i64_in _ ⟨by omega,by omega⟩).trans (by omega);have Qz:¬((i2:Int) <(es.length:Int)):=by omega
 have Jl:(j:Int) <(es.length:Int):=by omega
 have xx:((ses.length:Int) == 2)=false:=by rw[beq_eq_false_iff_ne];omega
 have C3:=h.ent _ _ h.hs;simp only at C3;have FH:=fun g' c' (q:shadow g (.ent b j)=some (g',c'))=>dB h.ic h.ve h.hb h.hj h.hs q;have yw:=aA (gV h.ic (fun b d hd=>(by have:=h.ent b d hd;omega:d.2.length≤10)) h.ve w0 S A kg h.r16 b j es h.hb h.hj);have Ka:=aA fun(w1:World) (hF:Frm (fun k=>k=A.ga) w w1)=>hS.slF eS hF;have H6:=aA fun(w1:World) (hF:Frm (fun k=>k=A.ga) w w1)=>hS.slF fx hF;have lh:=aA kg;have FN:=aA gz;have hX:Hid (kd es j≠kd es i):=h.cs.symm;have yu:Hid (∀w1,Bl w0 w1→w1.cell? ⟨B,0,none⟩=some (.int .i64 k)∧w1.cell? ⟨B,1,none⟩=some (.slice ac ces.length cpc)∧w1.cell? ⟨A.ga,kd es j*2+1,none⟩=some (.slice as1 ses.length cps)):=fun w1 hb=>by
  refine⟨?_,?_,?_⟩
  ·rw[(bj.of (hb.block _ bj.lt)).cell];rfl
  ·rw[(bj.of (hb.block _ bj.lt)).cell];rfl
  ·exact(hb.cell (p:=⟨A.ga,_,none⟩) kg.v.nds.arr.lt).trans e10
 obtain⟨q,hq⟩:=eZ (kd es i);obtain⟨s,hs⟩:=eZ (kd es j);have OR:=h.hs;have Gu:=h.hc;have AL:=h.cs;have nz:=h.bc;rw[hq]at x2 d0 d1 Fs hX au Gu AL nz;rw[hs]at y2 e10 GH hX yw OR AL FH;rw[hq];have Hv:=aA bj;clear aa fx rq bj kg v0 v1 hq hs AM yu;go_enter Tryz.func95,Tryz.ntmps95;go_wp2_with fail;refine yw.out.mono ?_;intro r w3 hz;obtain⟨bu,uw,uy⟩:=hz;cases al:shadow g (.ent b j)with
 | none=>
  obtain rfl:=uw al;have FR:=aA al;clear uw uy al;go_wp2;go_ret;rw[FR.out];exact⟨fun _=>⟨rfl,(Frm.of_below FN.out).trans bu⟩,fun g q=>by cases q⟩
 | some gc=>
  obtain⟨g',c'⟩:=gc;obtain⟨rfl,A3,f3,cy,BE,ul,be⟩:=uy g' c' al;obtain⟨n1,n2,n3,n4,n5,n6⟩:=FH g' c' al;have GF:q≠c':=n4 q _ Gu AL;have Ko:f3.nodes c'=some (k,ses):=by
   have:=be.sub c' _ n1
   have e:(setN f3 b (2,es.set j (ky es j,.empty,(c':Int)))).nodes c'=f3.nodes c':=aC _ _ n2;rw[e]at this;exact this
  have Fc:Frm (fun k=>k=A.ga) w w3:=(Frm.of_below FN.out).trans bu;have EW:f3.cur.length=g.cur.length:=ul;obtain⟨_,t3,_⟩:=cy.cells;obtain⟨as3,cps3,lz,Ro,_,_,f1,Ft⟩:=cy.v.nds.at Ko;simp only at lz f1 Ft;obtain⟨gs,os,cs3',JY,Bf,la⟩:=dZ lz (by omega);cases JY;have Ji:gs≠A3.ga:=by
   rcases lz with⟨q,_⟩ | ⟨g',o',cap',xs,q,q1,_⟩
   ·cases q
   ·cases q;exact q1.type_ne cy.v.nds.arr (by decide)
  have xe:B≠A3.ga:=by rw[BE.ga];exact zx
  have ki:IsC w3 B #[.int .i64 k,.slice ac ces.length cpc] 108:=Hv.out.frm bu zx;have Ds:S≠A3.ga:=by rw[BE.ga];exact wl
  have EJ:(1:Int)≤(cps3:Int):=by omega
  have zc:¬((c':Int)<0):=by omega
  have QN:(c':Int) <(A3.ns.length:Int):=by omega
  have Rd:(q:Int) <(A3.ns.length:Int):=by have:=cy.v.ln;omega
  obtain⟨n1',M3⟩:=eZ (ses.length-1);have R3:IntKind.i64.wrap ((ses.length:Int)-1)=(n1':Int):=(IntWalk.i64_in _ ⟨by omega,by omega⟩).trans (by omega);have RR:(n1':Int) <(ses.length:Int):=by omega
  have GB:n1'<ses.length:=by omega
  obtain⟨q0,q1,q2⟩:=la w3 n1' rfl GB;obtain⟨L,hL⟩:=eZ (ses.getD n1' e0);rw[hL]at q0 q1 q2;have TA:ky ses n1'=L.1:=by unfold ky;rw[hL]
  obtain⟨B4,dq⟩:=eZ (w3.heap.size);obtain⟨w4,cn⟩:=eZ (w3.alloc (.cells #[.string L.1,.string L.2.1,.int .i64 L.2.2] 110));have D3:=bAl cn;have CO:=iNw cn dq;have aw:=cy.below D3;have IN:Frm (fun k=>k=A.ga) w w4:=Fc.trans (Frm.of_below D3);have kj:=ki.of (D3.block _ ki.lt);have qi:=aA (aw.insM (i:=0) L (H6.out w4 IN) (by omega) (by have:=h.c2;omega) k (b:=q) (by omega));have t4:=aw.cells.2.1;have p0:w4.cell? ⟨B,0,none⟩=some (.int .i64 k):=kj.c rfl;have p1:w4.cell? ⟨B,1,none⟩=some (.slice ac ces.length cpc):=kj.c rfl;have p2:w4.cell? ⟨B4,0,none⟩=some (.string L.1):=CO.c rfl;have p3:w4.cell? ⟨B4,1,none⟩=some (.string L.2.1):=CO.c rfl;have p4:w4.cell? ⟨B4,2,none⟩=some (.int .i64 L.2.2):=CO.c rfl;have yu:Hid (∀w1,Bl w4 w1→w1.cell? ⟨B,0,none⟩=some (.int .i64 k)∧w1.cell? ⟨B,1,none⟩=some (.slice ac ces.length cpc)∧w1.cell? ⟨B4,0,none⟩=some (.string L.1)∧w1.cell? ⟨B4,1,none⟩=some (.string L.2.1)∧w1.cell? ⟨B4,2,none⟩=some (.int .i64 L.2.2)):=fun w1 hb=>by
   refine⟨?_,?_,?_,?_,?_⟩
   ·rw[(kj.of (hb.block _ kj.lt)).cell];rfl
   ·rw[(kj.of (hb.block _ kj.lt)).cell];rfl
   ·rw[(CO.of (hb.block _ CO.lt)).cell];rfl
   ·rw[(CO.of (hb.block _ CO.lt)).cell];rfl
   ·rw[(CO.of (hb.block _ CO.lt)).cell];rfl
  have Dd:B4≠A3.ga:=by have:=cy.v.nds.arr.lt;omega
  have FQ:=aA aw;have SP:=aA la;have PB:=aA (lz.below D3);have Ol:=aA kj;have LT:=aA CO;have Ot:=aA IN;have Nv:=aA (aI M3 (aI hL TA));clear uw uy la lz FH CO kj aw D3 IN M3 hL TA;go_wp2;go_region_held3 (fun W=>W.cell? ⟨S,1,none⟩=some (.slice (some ⟨A3.ga,0,none⟩) A3.ns.length (A3.ns.length+A3.nj.length))∧W.cell? ⟨B,0,none⟩=some (.int .i64 k)∧W.cell? ⟨B,1,none⟩=some (.slice ac ces.length cpc)∧W.cell? ⟨B4,0,none⟩=some (.string L.1)∧W.cell? ⟨B4,1,none⟩=some (.string L.2.1)∧W.cell? ⟨B4,2,none⟩=some (.int .i64 L.2.2)) (first | assumption | go_keep | exact⟨de,fz,vy,CM,Io,Fq⟩ | exact⟨bU Ds de,bU xe fz,bU xe vy,bU Dd CM,bU Dd Io,bU Dd Fq⟩) ((go_at_call 109;refine qi.out.mono ?_;rintro r w5 ⟨⟨y,rfl,C8,zi⟩,et,de,k0,k1,gp,fw,jh,gh⟩;obtain⟨fz,vy,CM,Io,Fq⟩:=yu.out w5 et));rw[dI C8];obtain⟨⟨A6,kv,N9⟩,Cg⟩:=FQ.out.store (q:=q) et (by omega) zi;have Ef:=FQ.out.slF PB.out Cg;have qd:IsC (set2 w5 A3.ga q y) B #[.int .i64 k,.slice ac ces.length cpc] 108:=Ol.out.frm Cg xe;have MT:IsC (set2 w5 A3.ga q y) B4 #[.string L.1,.string L.2.1,.int .i64 L.2.2] 110:=LT.out.frm Cg Dd;have YJ:(setN f3 q (k,insE ces 0 L)).cur.length=g.cur.length:=EW;have PZ:B≠A6.ga:=by rw[N9.ga];exact xe
  have MH:S≠A6.ga:=by rw[N9.ga];exact Ds
  have BC:=aA (kv.withoutM (i:=n1') Ef GB (by omega) k (b:=c') (by omega));have t6:=kv.cells.2.1;have p6:(set2 w5 A3.ga q y).cell? ⟨B,0,none⟩=some (.int .i64 k):=qd.c rfl;have V9:(c':Int) <(A6.ns.length:Int):=by have:=kv.v.ln;omega
  have SU:=aA Cg;have N3:=aA kv;have Hx:=aA qd;have Oi:=aA MT;obtain⟨w6,wi⟩:=eZ (set2 w5 A3.ga q y);rw[wi]at N3 BC SU t6 p6 Hx Oi;rw[wi];have zt:Hid (∀w1,Bl w6 w1→w1.cell? ⟨B,0,none⟩=some (.int .i64 k)):=fun w1 hb=>by rw[(Hx.out.of (hb.block _ Hx.out.lt)).cell];rfl
  clear de fz vy CM Io Fq gp fw jh gh zi Cg kv Ef qd MT qi yu wi;go_wp2;go_region_held3 (fun W=>W.cell? ⟨S,1,none⟩=some (.slice (some ⟨A6.ga,0,none⟩) A6.ns.length (A6.ns.length+A6.nj.length))∧W.cell? ⟨B,0,none⟩=some (.int .i64 k)) (first | assumption | go_keep | exact⟨de,fz⟩ | exact⟨bU MH de,bU PZ fz⟩) ((go_at_call 96;refine BC.out.mono ?_;rintro r w7 ⟨⟨z,rfl,Ay,GQ⟩,vi,de,k0,k1,gp,fw,jh,gh⟩;have fz:=zt.out w7 vi));rw[dI Ay];obtain⟨⟨A8,ni,Ss⟩,y7⟩:=N3.out.store (q:=c') vi (by omega) GQ;have IM:Frm (fun k=>k=A3.ga) w4 (set2 w7 A6.ga c' z):=SU.out.trans (y7.wide fun k _ e=>e.trans N9.ga);have IR:Frm (fun k=>k=A.ga) w (set2 w7 A6.ga c' z):=Ot.out.trans (IM.wide fun k _ e=>e.trans BE.ga);have NM:=Ka.out _ IR;have MU:IsC (set2 w7 A6.ga c' z) B4 #[.string L.1,.string L.2.1,.int .i64 L.2.2] 110:=LT.out.frm IM Dd;have r0:(set2 w7 A6.ga c' z).cell? ⟨B4,0,none⟩=some (.string L.1):=MU.c rfl;have yx:=aA (eR _ es i (L.1,.empty,(q:Int)) (set2 w7 A6.ga c' z) NM Gv (by omega));have YK:(setN (setN f3 q (k,insE ces 0 L)) c' (k,delE ses n1')).cur.length=g.cur.length:=EW;have P3:S≠A8.ga:=by rw[Ss.ga];exact MH
  have Vw:(b:Int) <(A8.ns.length:Int):=by have:=ni.v.ln;omega
  have Ov:=aA IR;have UP:Hid (SaS A A8):=(BE.trans N9).trans Ss;have Uw:=aA ni;have FR:=aA al;generalize set2 w7 A6.ga c' z=w8 at *;clear de fz gp fw jh gh GQ y7 ni NM BC zt IM IR al MU;go_wp2_with fail;refine yx.out.mono ?_;rintro r w9 ⟨u,rfl,hu,fu⟩;have pz:=Uw.out.below fu;have t9:=pz.cells.2.1;have Oa:(es.set i (L.1,.empty,(q:Int))).length=es.length:=List.length_set ..;obtain⟨gu,ou,cu',rfl,WS,EI⟩:=dZ hu.sl (by omega);obtain⟨g0',_,_⟩:=EI w9 j rfl (by omega);have Tw:((es.set i (L.1,.empty,(q:Int))).getD j e0).1=ky es j:=by rw[bB _ _ _ _ _ Gv,if_neg (by omega)];rfl
  rw[Tw]at g0';have Cd:=aA (pz.swapM (i:=j) (ky es j,.empty,(c':Int)) hu.sl (by omega) (by omega) 2 (b:=b) (by omega));have Ux:=aA pz;have Qv:gu≠A8.ga:=by
   rcases hu.sl with⟨q,_⟩ | ⟨g',o',cap',xs,q,q1,_⟩
   ·cases q
   ·cases q;exact q1.type_ne pz.v.nds.arr (by decide)
  have U7:Hid (∀w1,Bl w9 w1→w1.cell? ⟨gu,ou+j*3,none⟩=some (.string (ky es j))):=fun w1 hb=>(hb.cell (p:=⟨gu,_,none⟩) WS).trans g0';rw[Oa]at Cd;rw[Oa];have Xx:=aA Oa;clear pz hu EI Tw Oa;go_wp2;go_region_held3 (fun W=>W.cell? ⟨S,1,none⟩=some (.slice (some ⟨A8.ga,0,none⟩) A8.ns.length (A8.ns.length+A8.nj.length))∧W.cell? ⟨gu,ou+j*3,none⟩=some (.string (ky es j))) (first | assumption | go_keep | exact⟨de,fz⟩ | exact⟨bU P3 de,bU Qv fz⟩) ((go_at_call 94;refine Cd.out.mono ?_;rintro r w10 ⟨⟨x,rfl,zh,Ad⟩,AC,de,k0,k1,gp,fw,jh,gh⟩;have fz:=U7.out w10 AC));rw[dI zh];obtain⟨m1,m2,m3⟩:=Nv.out;have fg:delE ses n1'=ses.take n1':=by unfold delE;rw[List.drop_of_length_le (by omega),List.append_nil]
  have jm:insE ces 0 L=ses.drop n1'++ces:=by
   unfold insE;have hx:ses.drop (n1'+1)=[]:=List.drop_of_length_le (by omega);have:ses[n1']=L:=by rw[←m2,gD,gE GB];rfl
   rw[List.drop_eq_getElem_cons GB,hx,this];rfl
  have S0:Fin (setN (setN f3 q (k,insE ces 0 L)) c' (k,delE ses n1')) (moveF g' b c' q k (ses.take (ses.length-1)) (ses.drop (ses.length-1)++ces) ((es.set i (ky ses (ses.length-1),.empty,(q:Int))).set j (ky es j,.empty,(c':Int)))) b (2,(es.set i (L.1,.empty,(q:Int))).set j (ky es j,.empty,(c':Int))):=by
   rw[m1,jm,fg,m3];refine⟨fun x d' hx=>?_,be.len,be.roots,be.next,be.gen,be.com⟩;generalize (es.set i (L.1,.empty,(q:Int))).set j (ky es j,.empty,(c':Int))=pes at *;have bq:upd (upd (upd g'.nodes c' (some (k,ses.take n1'))) q (some (k,ses.drop n1'++ces))) b (some (2,pes)) x=some d':=hx;show upd (upd (upd f3.nodes q (some (k,ses.drop n1'++ces))) c' (some (k,ses.take n1'))) b (some (2,pes)) x=some d'
   by_cases e1:x=b
   ·rw[e1,aD]at bq ⊢;exact bq
   ·rw[aC _ _ e1]at bq ⊢
    by_cases e2:x=c'
    ·rw[e2,aC _ _ (Ne.symm GF),aD]at bq
     rw[e2,aD];exact bq
    ·rw[aC _ _ e2]
     by_cases e3:x=q
     ·rw[e3,aD]at bq ⊢;exact bq
     ·rw[aC _ _ e3,aC _ _ e2]at bq
      rw[aC _ _ e3];have:=be.sub x d' bq;have e:(setN f3 b (2,es.set j (ky es j,.empty,(c':Int)))).nodes x=f3.nodes x:=aC _ _ e1;rw[e]at this;exact this
  have HR:Hid (Zt w S A (moveF g' b c' q k (ses.take (ses.length-1)) (ses.drop (ses.length-1)++ces) ((es.set i (ky ses (ses.length-1),.empty,(q:Int))).set j (ky es j,.empty,(c':Int)))) (set2 w10 A8.ga b x)):=Zt.trans (Ov.out.trans (Frm.of_below fu)) UP.out (Ux.out.fin AC (by omega) Ad S0);clear de fz gp fw jh gh S0 jm fg m1 m2 m3;go_wp2;go_ret;rw[FR.out];exact⟨fun q=>(by cases q),fun g2 q2=>(by simp only[Option.map_some,sJ]at q2;subst q2;exact⟨rfl,HR.out⟩)⟩
theorem zB(wk:Wk g t H){P:List Nat}{lo hi:OB}(p:aN g t H P b (h+1) lo hi)(hV:VE g)(jr:g.roots.length≤16)(af:g.nodes b=some (2,es))(fe:i<es.length)(h2:2≤es.length){k:Int}(hc:g.nodes (kd es i)=some (k,ces))(cc:cu g (kd es i)=1)(c2:ces.length=2)(w:World)(S:Nat)(A:SA)(hS:Sp w S A g):
  Calls Tryz.prog 95 #[.pointer (some ⟨S,0,none⟩),.int .i64 b,.int .i64 i] w (ZpP w S A (if i+1<es.length then fillNext g b i (kd es i)else fillLast g b i (kd es i))):=by
 by_cases hn:i+1<es.length
 ·rw[if_pos hn]
  obtain⟨ses,hs,ti,b1,b2,b3⟩:=wk.sibling p af fe hn (by omega) hc cc;have hW:Wd g b es i (i+1) k ces ses:=⟨wk.ic,hV,jr,fun _ _ q=>wk.ent q,af,fe,hn,hc,hs,b1,b2,b3,c2,ti⟩;by_cases e:ses.length=2
  ·rw[rF af hc hs e]
   refine(nT hW e w S A hS).mono ?_;rintro r w' ⟨rfl,hz⟩;exact⟨fun q=>(by cases q),fun g' q=>(by cases q;exact⟨rfl,hz⟩)⟩
  ·rw[tW wk.ic hV af hn hc hs b1 b3 (by omega)]
   exact oX hW (by omega) w S A hS
 ·rw[if_neg hn]
  obtain⟨j,rfl⟩:∃j,i=j+1:=⟨i-1,by omega⟩;obtain⟨ses,hs,ti,b1,b2,b3⟩:=wk.sibling p af fe (show j<es.length by omega) (by omega) hc cc;have hW:Wd g b es (j+1) j k ces ses:=⟨wk.ic,hV,jr,fun _ _ q=>wk.ent q,af,fe,by omega,hc,hs,b1,b2,b3,c2,ti⟩;by_cases e:ses.length=2
  ·rw[rE wk.ic hV af fe hc hs e]
   refine(nS hW hn e w S A hS).mono ?_;rintro r w' ⟨rfl,hz⟩;exact⟨fun q=>(by cases q),fun g' q=>(by cases q;exact⟨rfl,hz⟩)⟩
  ·rw[tV wk.ic hV af fe hc hs b1 b3 (by omega)]
   exact oW hW hn (by omega) w S A hS
structure DeR(w:World)(S:Nat)(A:SA)(t:Nat)(key:ByteArray)(RM:Option fZ)(h:Nat)(c:Value)(wr:World):Prop where
 ex:∃(H:Nat) (f:fZ) (P:List Nat) (b:Nat) (lo hi:OB) (A':SA),c=.int .i64 b∧Wk f t H∧aN f t H P b h lo hi∧(P≠[]→3≤sz f.nodes b)∧cD f t H∧Mem f.nodes h b key∧VE f∧f.roots.length≤16∧Sp wr S A' f∧SaS A A'∧RM=delAt h f t b key
 frm:Frm (fun k=>k=A.ga∨k=A.gr) w wr
theorem Sp.chain(hF:Frm (fun k=>k=A.ga∨k=A.gr) w w1)(hA:SaS A A1)(h2:Frm (fun k=>k=A1.ga) w1 w2):Frm (fun k=>k=A.ga∨k=A.gr) w w2:=hF.trans (h2.wide fun k _ e=>.inl (e.trans hA.ga))
theorem aBS(af:f.nodes b=some (2,es))(key:ByteArray):stepDel f b key=match shadow f (.ent b (bK es key))with
  | none=>none
  | some (g,c)=>if 2 <(Fo.look g c).2.length then some (g,c)else if bK es key+1 <(Fo.look g b).2.length then(fillNext g b (bK es key) c).map fun k=>(k,c)else(fillLast g b (bK es key) c).map fun k=>(k,c):=by
 unfold stepDel;rw[aE af];rfl
theorem aAU(q:stepDel f b key=none):delAt (h+1) f t b key=none:=by
 unfold delAt;rw[q]
theorem aGN(x:Nat)(d:Nd)(h:(fallF g t b c).nodes x=some d):g.nodes x=some d:=by
 have h':upd g.nodes b none x=some d:=h;by_cases e:x=b
 ·rw[e,aD]at h';cases h'
 ·rw[aC _ _ e]at h';exact h'
theorem zC(h:1≤(Fo.look g b).2.length):∃d,g.nodes b=some d∧Fo.look g b=d:=by
 cases e:g.nodes b with
 | none=>unfold Fo.look at h;rw[e]at h;simp at h
 | some d=>exact⟨d,rfl,aE e⟩
theorem wP(wk:Wk f t H)(hV:VE f)(jr:f.roots.length≤16)(ez:cD f t H)(hm:Mem f.nodes H (aB f t) key)(w:World)(S:Nat)(A:SA)(hS:Sp w S A f):
  Calls Tryz.prog 71 #[.pointer (some ⟨S,0,none⟩),.int .i64 t,.string key] w (ZqP w S A (bV f t H key)):=by
 have sm:=gR;have Fr:=iS;have ht:=wk.tl;have hE:=fun b' d' (gd:f.nodes b'=some d')=>(by have:=wk.ent gd;omega:d'.2.length≤10);obtain⟨_,s1,s2,_⟩:=hS.cells;obtain⟨r0,r1⟩:=hS.v.root ht;have h0:0≤(f.roots.getD t (0,0)).2:=(wk.ic.rb _ (aO ht)).1;have fl:(f.roots.getD t (0,0)).2=(aB f t:Int):=by unfold aB;omega
 rw[fl]at r1;have Rv:(t:Int) <(f.roots.length:Int):=by omega
 have yw:=aA (mB wk.ic hE w S A hS jr t ht);have Ah:Hid (bV f t H key=match shadow f (.root t)with
  | none=>none
  | some (g,r)=>delAt H g t r key):=rfl
 generalize bV f t H key=RM at *;clear hE fl h0 r0;go_enter Tryz.func71,Tryz.ntmps71;go_wp2_with fail;refine yw.out.mono ?_;intro r w1 hz;obtain⟨ij,uw,uy⟩:=hz;cases al:shadow f (.root t)with
 | none=>
  obtain rfl:=uw al;have HP:Hid (RM=none):=by show RM=none;rw[Ah.out];rw[al]
  clear uw uy al;go_wp2;go_ret;rw[HP.out];exact⟨ij.wide fun _ _ e=>.inl e,fun _=>rfl,fun g q=>by cases q⟩
 | some gc=>
  obtain⟨g,r⟩:=gc;obtain⟨rfl,A1,f1,br,Ce,yl,ph,nk,C0,DP,M4,Bj⟩:=uy g r al;obtain⟨wk1,p1,a1,a2,a3,a4,a5,a6⟩:=wk.shadow_root al;have Kn:=hV.shadow_root al;have Ty:=(wk.shadow_root_mem al key H).1 hm;rw[al]at Ah;simp only at Ah;have Aa:t<f1.roots.length:=by rw[yl];exact ht
  obtain⟨ax,du⟩:=br.setRoot Aa r;have cy:Sp (w1.setCell ⟨A1.gr,t*2+1,none⟩ (.int .i64 r)) S A1 g:=ax.sub nk C0 ph DP M4 Bj;obtain⟨_,t1,t2,_⟩:=br.cells;obtain⟨_,z1⟩:=br.v.root Aa;have z2:=br.v.rts.frozen (t*2+1);have bu:Frm (fun k=>k=A.ga∨k=A.gr) w (w1.setCell ⟨A1.gr,t*2+1,none⟩ (.int .i64 r)):=(ij.wide fun _ _ e=>.inl e).trans (du.wide fun _ _ e=>.inr (e.trans Ce.gr));obtain⟨w2,ci⟩:=eZ (w1.setCell ⟨A1.gr,t*2+1,none⟩ (.int .i64 r));rw[ci]at cy bu;have Ru:(t:Int) <(f1.roots.length:Int):=by omega
  have KF:¬((r:Int)<0):=by omega
  have BA:g.roots.length≤16:=by rw[a6.len];exact jr
  have HD:Hid (DeR w S A t key RM H (.int .i64 r) w2):=⟨⟨H,g,[],r,none,none,A1,rfl,wk1,p1,fun q=>absurd rfl q,a5 ez,Ty,Kn,BA,cy,Ce,Ah.out⟩,bu⟩;obtain⟨m,vo,od⟩:=lR (DeR w S A t key RM);have Ep:=aA vo;have Er:=aA od;clear uw uy al ij du bu br ax cy yl ph nk C0 DP M4 Bj Ce yw a1 a2 a3 a4 a5 a6 wk1 p1 Kn Ty BA vo od Ah hS wk hV hm ez;go_wp2;clear ci;go_loopw [7,8,9,10] (fun c _ _ _ wr=>∃h,DeR w S A t key RM h c wr) (fun c _ _ _ wr=>m c wr)
  case atStart=>exact⟨H,HD.out⟩
  case round=>
   clear HD;obtain⟨h0,MC⟩:=hrel;have hR:=Ep.out _ _ _ MC;obtain⟨hh,WT⟩:=eZ (m u7 wr);rw[WT]at hR;clear MC;obtain⟨⟨H1,f1,P1,b,lo,hi,A1,rfl,wk,p,h3,ez,hm,hV,jr,hS,hA,TL⟩,hF⟩:=hR;have Ah:=aA TL;have HF:=aA hF;have HA:=aA hA;obtain⟨_,s1,_⟩:=hS.cells;have wl:S≠A1.ga:=hS.box.type_ne hS.v.nds.arr (by decide);clear TL hF hA;cases hh with
   | zero=>
    obtain⟨es,af,hn,hc⟩:=p.leaf wk;obtain⟨es',q1,j0,AN,gp⟩:=hm;rw[af]at q1;cases q1;have ah:=wk.ent af;simp only at ah;have d9:=wk.ic.lt af;obtain⟨a,cp,eS,xk,_,c0,c1,_⟩:=hS.v.nds.at af;simp only at eS c0 c1;obtain⟨g0,o0,cc,he,vm,aa⟩:=dZ eS (by omega);cases he;have E6:(b:Int) <(A1.ns.length:Int):=by omega
    have Hy:Hid (RM=some (setN f1 b (1,delE es (cLt es key)))):=by
     show RM=_
     rw[Ah.out];unfold delAt;rw[aE af]
    have BC:=aA fun(i:Nat) (hi:i<es.length)=>hS.withoutM (i:=i) eS hi (by omega) 1 d9;have HS:=aA hS;have Uh:=aA gp;clear eS wk p hV hS Ah ez h3;go_wp2;go_loopw [12] (fun i wx=>∃j:Nat,j≤j0∧i=.int .i64 j∧Is2 (.bool false) (.bool false) wx wr∧Hid (∀x,x<j→ky es x≠key)) (fun i _=>es.length -(intOf i).toNat)
    case atStart=>exact⟨0,by omega,rfl,⟨rfl,rfl⟩,fun x hx=>by omega⟩
    case round=>
     obtain⟨j,hj,rfl,⟨_,Xg⟩,ay⟩:=hrel;subst Xg;have ai:j<es.length:=by omega
     obtain⟨x0,_,_⟩:=aa wr j rfl ai;have dm:(j:Int) <(es.length:Int):=by omega
     have HK:Hid (ky es j=(es.getD j e0).1):=rfl;clear aa;generalize (es.getD j e0).1=x at *;by_cases he:x=key
     ·have hq:(x.toList == key.toList)=true:=by rw[he];exact beq_self_eq_true _
      have HC:Hid (cLt es key=j):=(jW hn.srt ai (HK.out.trans he)).2;have LU:=aA (BC.out j ai);clear he BC;go_wp2;go_region_held3 (fun W=>W.cell? ⟨S,1,none⟩=some (.slice (some ⟨A1.ga,0,none⟩) A1.ns.length (A1.ns.length+A1.nj.length))) (first | assumption | go_keep | exact bU wl de) ((go_at_call 96;refine LU.out.mono ?_;rintro r w3 ⟨⟨y,rfl,C8,zi⟩,bx,de,k0,k1,gp,fw,jh,gh⟩));rw[dI C8];obtain⟨⟨A4,aw,ID⟩,jl⟩:=HS.out.store bx d9 zi;have HR:Hid (ZqP w S A RM (.returned (.bool true)) (set2 w3 A1.ga b y)):=by
       show ZqP _ _ _ _ _ _
       rw[Hy.out,HC.out];refine⟨Sp.chain HF.out HA.out jl,fun q=>(by cases q),fun g2 q2=>?_⟩;cases q2;exact⟨rfl,A4,aw,HA.out.trans ID⟩
      clear de gp fw jh gh aw jl;go_wp2;go_ret;exact HR.out
     ·have hq:(x.toList == key.toList)=false:=by rw[beq_eq_false_iff_ne];exact fun e=>he (gQ e)
      have Q7:j<j0:=by
       rcases Nat.lt_or_eq_of_le hj with q | q
       ·exact q
       ·exfalso;apply he;rw[←HK.out,q];exact Uh.out
      have LR:Hid (∀z,z<j+1→ky es z≠key):=fun z hz=>by
       by_cases e:z=j
       ·rw[e,HK.out];exact he
       ·exact ay.out z (by omega)
      clear he BC;go_wp2;go_roundw
      case rel=>exact⟨j+1,by omega,by go_num,⟨rfl,rfl⟩,LR.out⟩
      case measure=>simp[intOf];omega
   | succ h=>
    obtain⟨es1,ew,yj,lw⟩:=p.inner wk;have RF:es1.length≤5:=wk.ent ew;have d9:=wk.ic.lt ew;have Dh:=fun b' d' (gd:f1.nodes b'=some d')=>(by have:=wk.ent gd;omega:d'.2.length≤10);have PM:=Wk.two p ez h3 ew;obtain⟨a,vc,jy,xk,_,c0,c1,_⟩:=hS.v.nds.at ew;simp only at jy c0 c1;have Hz:=aA (rK yj.srt key);have fe:=eB key lw;obtain⟨v1,_⟩:=hV.inner wk.ic ew fe;obtain⟨g1,o1,cc1,EO,iv,ud⟩:=dZ jy (by omega);cases EO;have Bc:=vC (.slice (some ⟨g1,o1,none⟩) es1.length vc) es1 key wr jy (by omega);rw[Hz.out]at Bc;have yv:=aA (aBS ew key);have SS:=aA fun(g:fZ) (c:Nat) (q:stepDel f1 b key=some (g,c))=>wk.delRound p ez h3 hm q;have DW:Hid (stepDel f1 b key=none→delAt (h+1) f1 t b key=none):=aAU;generalize bK es1 key=i at *;obtain⟨x0,x1,x2⟩:=ud wr i rfl fe;rw[v1]at x0 x1 x2;have Q1:(i:Int) <(es1.length:Int):=by omega
    have E6:(b:Int) <(A1.ns.length:Int):=by omega
    have yw:=aA (gV wk.ic Dh hV wr S A1 hS jr b i es1 ew fe);clear ud v1;go_wp2_with fail;refine Bc.mono ?_;rintro r w2 ⟨rfl,rfl⟩;go_wp2_with fail;refine yw.out.mono ?_;intro r w3 hz;obtain⟨bu,uw,uy⟩:=hz;cases al:shadow f1 (.ent b i)with
    | none=>
     obtain rfl:=uw al;have HP:Hid (RM=none):=by
      show RM=none
      rw[Ah.out];exact DW.out (by rw[yv.out,al])
     clear uw uy al;go_wp2;go_ret;rw[HP.out];exact⟨Sp.chain HF.out HA.out bu,fun _=>rfl,fun g q=>by cases q⟩
    | some gc=>
     obtain⟨g,c⟩:=gc;obtain⟨rfl,A3,f3,cy,BE,ul,be⟩:=uy g c al;obtain⟨wk2,p2,p3,⟨es2,m1,m2,m3,m4⟩,m5,m6,m7,_,m9⟩:=wk.shadow_ent p ew fe al;have sk:=hV.shadow_ent wk.ic ew fe al;rw[al]at yv;simp only at yv;obtain⟨es',xw⟩:=eZ (es1.set i (ky es1 i,.empty,(c:Int)));rw[xw]at be;have od:g.nodes b=some (2,es'):=by
      have:=be.sub b _ m1
      have e:(setN f3 b (2,es')).nodes b=some (2,es'):=aD _ _ _;rw[e]at this;rw[m1];exact this.symm
     have Fz:kd es' i=c:=by rw[m1]at od;cases od;exact m4
     obtain⟨⟨k,ces⟩,i9⟩:=wk2.ic.live (x:=c) (by rw[m6];omega);have au:=wk2.ent i9;have re:=wk2.ent od;simp only at au re;have xr:2≤ces.length:=by
      have:=(p3.ok wk2.ok).2 (by simp);unfold sz at this;rw[i9]at this;exact this
     have EA:b<f3.cur.length:=by rw[ul];exact d9
     have lz:yE.Sl w3 (.slice (some ⟨g1,o1,none⟩) es1.length vc) es1:=jy.frm bu fun g cs hg=>hg.type_ne hS.v.nds.arr (by decide);obtain⟨y0,y1,y2⟩:w3.cell? ⟨g1,o1+i*3,none⟩=some (.string (ky es1 i))∧w3.cell? ⟨g1,o1+i*3+1,none⟩=some (.string .empty)∧w3.cell? ⟨g1,o1+i*3+2,none⟩=some (.int .i64 (kd es1 i)):=by
      have av:g1≠A1.ga:=by
       rcases jy with⟨q,_⟩ | ⟨g',o',cap',xs,q,q1,_⟩
       ·cases q
       ·cases q;exact q1.type_ne hS.v.nds.arr (by decide)
      have hw:∀k,w3.cell? ⟨g1,k,none⟩=w2.cell? ⟨g1,k,none⟩:=fun k=>by simp[World.cell?,bu.block g1 iv av]
      exact⟨(hw _).trans x0,(hw _).trans x1,(hw _).trans x2⟩
     have H7:Hid (Calls Tryz.prog 94 #[.slice (some ⟨g1,o1,none⟩) es1.length vc,.int .i64 i,.agg #[.string (ky es1 i),.string .empty,.int .i64 c]] w3 fun r w'=>∃u,r=.returned u∧yE.Own w3.heap.size w' u es'∧Bl w3 w'):=by
      rw[←xw];exact eR _ es1 i (ky es1 i,ByteArray.empty,(c:Int)) w3 lz fe (by omega)
     have zc:¬((c:Int)<0):=by omega
     have H0:Hid (Frm (fun k=>k=A.ga∨k=A.gr) w w3):=Sp.chain HF.out HA.out bu;have LQ:Hid (SaS A A3):=HA.out.trans BE;have BA:Hid (g.roots.length≤16):=by show g.roots.length≤16;rw[m9.len];exact jr
     have Eo:Hid (es'.length=es1.length):=by show es'.length=_;rw[←xw,List.length_set]
     clear uw uy jy hS xw m1 m2 m3 m4 m5 m7 m9 Dh Bc yw bu BE ul x0 x1 x2 lz hm wk p hV ez h3;go_wp2_with fail;refine H7.out.mono ?_;rintro r w4 ⟨u,rfl,hu,kw⟩;obtain⟨x,rfl,zh,Ad⟩:=hu.nv 2;have aw:=cy.below kw;obtain⟨k0,k1,gp,fw,jh,gh,QD⟩:=aw.wr EA;obtain⟨_,t1',_⟩:=aw.cells;obtain⟨⟨A5,cq,zw⟩,er⟩:=cy.fin kw EA Ad be;have uz:Hid (Frm (fun k=>k=A.ga∨k=A.gr) w (set2 w4 A3.ga b x)):=Sp.chain H0.out LQ.out er;have GU:Hid (SaS A A5):=LQ.out.trans zw;have sf:=dI (w:=w4) (g:=A3.ga) (q:=b) zh;obtain⟨w5,Ng⟩:=eZ (set2 w4 A3.ga b x);rw[Ng]at cq uz sf;have IA:=aA cq;obtain⟨_,t5,_⟩:=cq.cells;obtain⟨ac,cpc,fx,JD,_,d0,d1,EK⟩:=cq.v.nds.at i9;simp only at fx d0 d1 EK;have Fs:(c:Int) <(A5.ns.length:Int):=by omega
     clear aw kw er zw Ad hu cy Ng cq;go_upto_if 89 with fail
     clear sf;rw[aE i9,aE od]at yv;simp only at yv;by_cases xx:ces.length=2
     ·have td:((ces.length:Int) == 2)=true:=by rw[xx];rfl
      rw[if_neg (by omega)]at yv;have CU:i<es'.length:=by rw[Eo.out];exact fe
      have OJ:=zB wk2 p2 sk BA.out od CU (by rw[Eo.out];exact PM) (by rw[Fz];exact i9) (by rw[Fz];exact m6) xx w5 S A5 IA.out;rw[Fz]at OJ;obtain⟨FW,OE⟩:=eZ ((if i+1<es'.length then fillNext g b i c else fillLast g b i c));rw[OE]at OJ;have TN:stepDel f1 b key=FW.map fun k=>(k,c):=by
       rw[yv.out,←OE];split<;>rfl
      have Vk:∀g2,FW=some g2→VE g2:=fun g2 q=>by
       rw[←OE]at q;split at q
       ·rename_i hn
        exact sk.fillNext wk2.ic od hn q
       ·rename_i hn
        have:=PM
        exact sk.fillLast wk2.ic od CU (by have:=Eo.out;omega) q
      have U1:=aA OJ;rw[td];clear xx td fx OJ yv OE Fz;go_wp2_with fail;refine U1.out.mono ?_;intro e w6 hz;cases FW with
      | none=>
       obtain⟨rfl,Cg⟩:=hz.no rfl;have HP:Hid (RM=none):=by
        show RM=none
        rw[Ah.out];exact DW.out (by rw[TN];rfl)
       clear hz;go_wp2;go_ret;rw[HP.out];exact⟨Sp.chain uz.out GU.out Cg,fun _=>rfl,fun g q=>by cases q⟩
      | some g2=>
       obtain⟨rfl,⟨⟨A7,it,Db⟩,Ak⟩⟩:=hz.yes g2 rfl;obtain⟨lv,iN⟩:=SS.out g2 c TN;have TX:=Vk g2 rfl;have GV:Hid (Frm (fun k=>k=A.ga∨k=A.gr) w w6):=Sp.chain uz.out GU.out Ak;have DB:Hid (SaS A A7):=GU.out.trans Db;have TK:g2.roots.length≤16:=by rw[lv.len];exact jr
       have ee:1≤(Fo.look g2 b).2.length:=by rcases iN with⟨e1,_⟩ | ⟨e1,_⟩<;>omega
       obtain⟨d7,WF,gx⟩:=zC ee;rw[gx]at iN ee;obtain⟨_,t7,t72,_⟩:=it.cells;obtain⟨a7,cp7,_,Vv,_,_,e17,_⟩:=it.v.nds.at WF;have MS:(b:Int) <(A7.ns.length:Int):=by omega
       rcases iN with⟨e1,e2,e3,P',lo',ak,e4,e5,e6,e7⟩ | ⟨e1,e2,e3,e4,H',e5,e6,e7,e8⟩
       ·have Df:DeR w S A t key RM h (.int .i64 c) w6:=⟨⟨H1,g2,P',c,lo',ak,A7,rfl,e3,e4,e5,e6,e7,TX,TK,it,DB.out,Ah.out.trans e2⟩,GV.out⟩
        have Hy:=aA Df;have h1:=Er.out _ _ _ Df;have lw:((d7.2.length:Int) == 1)=false:=by rw[beq_eq_false_iff_ne];omega
        clear hz Df e1 e2 e3 e4 e5 e6 e7 it Ak;go_wp2;go_roundw
        case rel=>exact⟨h,Hy.out⟩
        case measure=>omega
       ·obtain⟨ni,y7⟩:=it.setRoot e3 c
        have pz:Sp (w6.setCell ⟨A7.gr,t*2+1,none⟩ (.int .i64 c)) S A7 (fallF g2 t b c):=ni.sub (fun x d hx=>(show g2.nodes x=some d from aGN (g:=g2) (t:=t) (b:=b) (c:=c) x d hx)) (by simp[fallF,setL,freeB]) rfl rfl rfl rfl;have Vg:(fallF g2 t b c).roots.length≤16:=by
         have:(fallF g2 t b c).roots.length=g2.roots.length:=(aX.fallF ..).len
         rw[this];exact TK
        have Df:DeR w S A t key RM h (.int .i64 c) (w6.setCell ⟨A7.gr,t*2+1,none⟩ (.int .i64 c)):=⟨⟨H',fallF g2 t b c,[],c,none,none,A7,rfl,e5,e6,fun q=>absurd rfl q,e7,e8,TX.fallF t b c,Vg,pz,DB.out,Ah.out.trans e4⟩,GV.out.trans (y7.wide fun k _ e=>.inr (e.trans DB.out.gr))⟩;have Hy:=aA Df;have h1:=Er.out _ _ _ Df;have lw:((d7.2.length:Int) == 1)=true:=by rw[e1];rfl
        obtain⟨_,z1'⟩:=it.v.root e3;have z2':=it.v.rts.frozen (t*2+1);have XQ:(t:Int) <(g2.roots.length:Int):=by omega
        clear hz Df e1 e2 e3 e4 e5 e6 e7 e8 it Ak ni pz y7;go_wp2;go_roundw
        case rel=>exact⟨h,Hy.out⟩
        case measure=>omega
     ·have td:((ces.length:Int) == 2)=false:=by rw[beq_eq_false_iff_ne];omega
      rw[if_pos (by omega)]at yv;obtain⟨lv,iN⟩:=SS.out g c yv.out;have Df:DeR w S A t key RM h (.int .i64 c) w5:=by
       rcases iN with⟨e1,e2,e3,P',lo',ak,e4,e5,e6,e7⟩ | ⟨e1,_⟩
       ·exact⟨⟨H1,g,P',c,lo',ak,A5,rfl,e3,e4,e5,e6,e7,sk,BA.out,IA.out,GU.out,Ah.out.trans e2⟩,uz.out⟩
       ·exfalso;rw[aE od]at e1;have:=Eo.out;simp only at e1;omega
      have Hy:=aA Df;have h1:=Er.out _ _ _ Df;rw[td];clear xx td fx Df iN lv;go_wp2;go_roundw
      case rel=>exact⟨h,Hy.out⟩
      case measure=>omega
def plZ(f:fZ)(tree:Int):Int:=match atT f tree with
 | none=>-1
 | some t=>t
theorem aDO(ht:t<f.roots.length)(h:∀x,x<t→rid f x≠tree)(he:rid f t=tree):atT f tree=some t:=by
 unfold atT;rw[List.find?_range_eq_some];exact⟨by simpa using he,by simpa using ht,fun x hx=>by have:=h x hx;simpa using this⟩
theorem xT(h:∀x,x<f.roots.length→rid f x≠tree):atT f tree=none:=by
 unfold atT;rw[List.find?_eq_none];intro x hx;have:=h x (List.mem_range.1 hx);simpa using this
theorem iT(w:World)(S:Nat)(A:SA)(hS:Sp w S A f)(jr:f.roots.length≤100)(tree:Int):
  Calls Tryz.prog 39 #[.pointer (some ⟨S,0,none⟩),.int .i64 tree] w fun r w'=>r=.returned (.int .i64 (plZ f tree))∧w'=w:=by
 obtain⟨_,_,s2,_⟩:=hS.cells;go_enter Tryz.func39,Tryz.ntmps39;go_wp2;go_loopw [5] (fun i wr=>∃k:Nat,k≤f.roots.length∧i=.int .i64 k∧Is2 (.bool false) (.bool false) wr w∧Hid (∀x,x<k→rid f x≠tree)) (fun i _=>f.roots.length -(intOf i).toNat)
 case atStart=>exact⟨0,by omega,rfl,⟨rfl,rfl⟩,fun x hx=>by omega⟩
 case round=>
  obtain⟨k,hk,rfl,⟨_,wt⟩,ay⟩:=hrel;subst wt;by_cases ai:k<f.roots.length
  ·obtain⟨r0,_⟩:=hS.v.root ai
   have lq:(k:Int) <(f.roots.length:Int):=by omega
   have HR:Hid (rid f k=(f.roots.getD k (0,0)).1):=rfl;generalize (f.roots.getD k (0,0)).1=x at *;cases ex:(x == tree)with
   | true=>
    have HT:Hid (plZ f tree=(k:Int)):=by
     show plZ f tree=_
     unfold plZ;rw[aDO ai ay.out (HR.out.trans (by simpa using ex))]
    go_wp2
    go_ret
    exact⟨by rw[HT.out];rfl,rfl⟩
   | false=>
    have HA:Hid (∀z,z<k+1→rid f z≠tree):=fun z hz=>by
     by_cases e:z=k
     ·rw[e,HR.out];simpa using ex
     ·exact ay.out z (by omega)
    go_wp2
    go_roundw
    case rel=>exact⟨k+1,by omega,by go_num,⟨rfl,rfl⟩,HA.out⟩
    case measure=>simp[intOf];omega
  ·obtain rfl:k=f.roots.length:=by omega
   have HT:Hid (plZ f tree=-1):=by
    show plZ f tree=_
    unfold plZ;rw[xT ay.out]
   go_wp2
   go_ret
   exact⟨by rw[HT.out];rfl,rfl⟩
theorem pK(v:Value)(c:List Int)(w:World)(hv:y64.Sl w v c)(hl:c.length≤512)(h0:0<c.length):
  Calls Tryz.prog 86 #[v] w fun r w'=>r=.returned (.int .i64 (iL c c.length))∧w'=w:=by
 obtain⟨g,o,cc,rfl,hg,_,aa⟩:=mW hv h0;have KC:∀k,iL c k≤k:=by
  intro k;induction k with
  | zero=>exact nR _
  | succ k ih=>unfold iL;split<;>omega
 go_enter Tryz.func86,Tryz.ntmps86
 go_wp2
 go_loopw [3,4] (fun n i wr=>∃k:Nat,k≤c.length∧i=.int .i64 k∧Is2 n (.int .i64 (iL c k)) wr w) (fun _ i _=>c.length -(intOf i).toNat)
 case atStart=>exact⟨0,by omega,rfl,⟨rfl,rfl⟩⟩
 case round=>
  obtain⟨k,hk,rfl,⟨hn,wt⟩⟩:=hrel;subst wt;subst hn;by_cases ai:k<c.length
  ·have x0:=aa wr k rfl ai
   have lq:(k:Int) <(c.length:Int):=by omega
   have HP:Hid (iL c (k+1)=iL c k+if 0<c.getD k 0 then 1 else 0):=rfl;have LB:=KC k;clear aa KC;generalize c.getD k 0=x at *;generalize iL c k=pk at *;have Xe:IntKind.i64.wrap ((pk:Int)+1)=((pk+1:Nat):Int):=(IntWalk.i64_in _ ⟨by omega,by omega⟩).trans (by omega);by_cases hx:0<x
   ·rw[if_pos hx]at HP
    go_wp2
    go_roundw
    case rel=>exact⟨k+1,by omega,by go_num,⟨by rw[HP.out];first | rfl | go_num,rfl⟩⟩
    case measure=>simp[intOf];omega
   ·rw[if_neg hx]at HP
    go_wp2
    go_roundw
    case rel=>exact⟨k+1,by omega,by go_num,⟨by rw[HP.out];rfl,rfl⟩⟩
    case measure=>simp[intOf];omega
  ·obtain rfl:k=c.length:=by omega
   clear aa KC;go_wp2;go_ret;exact⟨rfl,rfl⟩
structure CtS(f:fZ):Prop where
 ic:IC f
 r16:f.roots.length≤16
 ent:∀b d,f.nodes b=some d→d.2.length≤10
 com:∀i,0≤co f i∧co f i≤65535
theorem CtS.k(h:CtS f):∀x,cu f x≤1000000:=h.ic.counts h.r16 h.ent
theorem qD(h:CtS f)(w:World)(S:Nat)(A:SA)(hS:Sp w S A f):
  Calls Tryz.prog 91 #[.pointer (some ⟨S,0,none⟩)] w fun r w'=>r=.returned (.int .i64 (fJ f.cur f.com))∧Bl w w':=by
 have h8:=h.ic.n8;have h5:=h.ic.n512;have au:=h.ic.len;obtain⟨_,_,_,_,_,s5,_⟩:=hS.cells;have Cl:=hS.drew;have HC:Hid (Calls Tryz.prog 33 #[.pointer (some ⟨S,0,none⟩)] w.drew fun r w1=>∃a c,r=.returned (.slice a f.cur.length c)∧y64.Sl w1 (.slice a f.cur.length c) f.cur∧Bl w w1):=by
  refine(iD h.ic h.k h.ent w.drew S A Cl (by have:=h.r16;omega)).mono ?_;rintro r w1 ⟨u,rfl,hu,hb⟩;obtain⟨a,c,rfl⟩:=hu.sl.len;exact⟨a,c,rfl,hu.sl,(bQ _ w).drew.trans hb⟩
 obtain⟨gm,om,cm,pq,_,_,_⟩:=mW hS.v.com (by omega);have HS:=aA hS;have HB:Hid (∀x,0≤cu f x∧cu f x≤1000000):=fun x=>⟨h.ic.dom.pos x,h.k x⟩;have HM:=aA h.com;rw[pq]at s5;have KW:=aA pq;have O1:Hid (fJ f.cur f.com=((frI f.cur f.com f.cur.length f.cur.length).length:Int)):=by
  show fJ _ _=_
  unfold fJ frI;rw[List.length_map]
 have Ui:=aA au;clear au pq Cl;go_enter Tryz.func91,Tryz.ntmps91;go_wp2;go_region_held3 (fun W=>W.cell? ⟨S,5,none⟩=some (.slice (some ⟨gm,om,none⟩) f.com.length cm)) (first | assumption | go_keep)
  ((first
   | (go_at_call 33;refine HC.out.mono ?_;rintro r w1 ⟨ca,cc,rfl,eS,ao⟩;have Io:w1.cell? ⟨S,5,none⟩=some (.slice (some ⟨gm,om,none⟩) f.com.length cm):=(by rw[←KW.out];exact(HS.out.below ao).cells.2.2.2.2.2.1))
   | (go_at_call 84;refine(rY ca (some ⟨gm,om,none⟩) cc cm f.cur f.com w1 (eS.nts fun i=>by have:=HB.out i;unfold cu at this;omega) ((by rw[←KW.out];exact(HS.out.below ao).v.com:y64.Sl w1 (.slice (some ⟨gm,om,none⟩) f.com.length cm) f.com).nts fun i=>by have:=HM.out i;unfold co at this;omega) Ui.out h5 h8).mono ?_;rintro r w2 ⟨u,rfl,og,ba⟩;obtain⟨ua,uc,rfl⟩:=og.shape;have Fq:w2.cell? ⟨S,5,none⟩=some (.slice (some ⟨gm,om,none⟩) f.com.length cm):=(by rw[←KW.out];exact((HS.out.below ao).below ba).cells.2.2.2.2.2.1))))
 have HR:Hid (Bl w w2):=ao.trans (ba.mono ao.size);clear Io Fq;go_wp2;go_ret;exact⟨by rw[O1.out];rfl,HR.out⟩
def pQ(f:fZ):Bool:=decide (2*fK f.cur.length≤fJ f.cur f.com)
theorem pL(h:CtS f)(w:World)(S:Nat)(A:SA)(hS:Sp w S A f):
  Calls Tryz.prog 70 #[.pointer (some ⟨S,0,none⟩)] w fun r w'=>r=.returned (.bool (pQ f))∧Bl w w':=by
 obtain⟨s0,_⟩:=hS.cells;have h8:=h.ic.n8;have h5:=h.ic.n512;have HF:Hid (Calls Tryz.prog 91 #[.pointer (some ⟨S,0,none⟩)] w.drew fun r w'=>r=.returned (.int .i64 (fJ f.cur f.com))∧Bl w w'):=(qD h w.drew S A hS.drew).mono fun r w' hw=>⟨hw.1,(bQ _ w).drew.trans hw.2⟩;have Uu:=aA fun(w':World)=>qH f.cur.length w';have NI:0≤fK f.cur.length∧fK f.cur.length≤1000:=by unfold fK;split<;>omega
 have Ut:Hid (pQ f=decide (2*fK f.cur.length≤fJ f.cur f.com)):=rfl;have HS:=aA hS;generalize fK f.cur.length=rv at *;generalize fJ f.cur f.com=fc at *;have Yb:IntKind.i64.wrap (2*rv)=2*rv:=IntWalk.i64_in _ ⟨by omega,by omega⟩;go_enter Tryz.func70,Tryz.ntmps70;go_wp2;go_region_held3 (fun W=>W.cell? ⟨S,0,none⟩=some (.int .i64 f.cur.length)) (first | assumption | go_keep)
  ((first
   | (go_at_call 91;refine HF.out.mono ?_;rintro r w1 ⟨rfl,ao⟩;have de:w1.cell? ⟨S,0,none⟩=some (.int .i64 f.cur.length):=(HS.out.below ao).cells.1)
   | (go_at_call 92;refine(Uu.out _).mono ?_;rintro r w2 ⟨rfl,rfl⟩)))
 clear de;go_wp2;go_ret;exact⟨by rw[Ut.out];rfl,ao⟩
