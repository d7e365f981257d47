import Derived.Test.YtaahkgkdpnnhhaaGreatSq6
set_option maxHeartbeats 9999999
set_option maxRecDepth 99999
set_option linter.all false
namespace Go.Proofs.YtaahkgkdpnnhhaaGreat
open Go.RowKit Fo
theorem kK{t H:Nat}{key val:ByteArray}:∀(h:Nat) (f:fZ) (b:Nat) (P:List Nat) (lo hi:OB),Wk f t H→aN f t H P b h lo hi→loR lo key→hiR hi key→sz f.nodes b<5→VE f→f.roots.length≤16→∀(w:World) (S:Nat) (A:SA),Sp w S A f→
  Calls Tryz.prog 90 #[.pointer (some ⟨S,0,none⟩),.int .i64 b,.string key,.string val] w (ZpP w S A ((putAt h f b key val).map Prod.fst))
 | 0,f,b,P,lo,hi,wk,p,hl,hh,h5,hV,h16,w,S,A,hS=>by
  obtain⟨es,hes,hn,hc⟩:=p.leaf wk;have hlen:=wk.ent hes;refine(wB w S A hS b es key val hes hn.srt hc (by simp only at hlen;omega) (wk.ic.lt hes)).mono ?_;rintro e w' ⟨rfl,hz⟩;have hp:(putAt 0 f b key val).map Prod.fst=some (setN f b (1,putE es key val)):=by unfold putAt;rw[aE hes];rfl
  rw[hp];exact⟨fun q=>(by cases q),fun g q=>(by cases q;exact⟨rfl,hz⟩)⟩
 | h+1,f,b,P,lo,hi,wk,p,hl,hh,h5,hV,h16,w,S,A,hS=>
  uM wk p hl hh h5 hV h16 (fun g c P' lo' hi' k1 k2 k3 k4 k5 k6 k7=>kK h g c P' lo' hi' k1 k2 k3 k4 k5 k6 k7) w S A hS
theorem aLT(l:List (Int×Int))(t:Nat)(q:Int)(h:t<l.length):(yT.row l).setIfInBounds (t*2+1) (.int .i64 q)=yT.row (l.set t ((l.getD t (0,0)).1,q)):=by
 unfold Ely.row;rw[List.setIfInBounds_toArray];congr 1;induction l generalizing t with
 | nil=>simp at h
 | cons a l ih=>
  cases t with
  | zero=>rfl
  | succ t=>
   simp only[List.flatMap_cons,List.set_cons_succ];have e:yT.cell a=[.int .i64 a.1,.int .i64 a.2]:=rfl;rw[e];have e1:(t+1)*2+1=t*2+1+1+1:=by omega
   rw[e1];show [_,_]++(l.flatMap yT.cell).set (t*2+1) _=_
   rw[ih t (by simpa using h)];rfl
theorem Sp.setRoot{w:World}{S:Nat}{A:SA}{f:fZ}(h:Sp w S A f){t:Nat}(ht:t<f.roots.length)(q:Nat):Sp (w.setCell ⟨A.gr,t*2+1,none⟩ (.int .i64 q)) S A (setL f (.root t) q)∧Frm (fun k=>k=A.gr) w (w.setCell ⟨A.gr,t*2+1,none⟩ (.int .i64 q)):=by
 have hF:Frm (fun k=>k=A.gr) w (w.setCell ⟨A.gr,t*2+1,none⟩ (.int .i64 q)):=Frm.set (S:=fun k=>k=A.gr) w (p:=⟨A.gr,t*2+1,none⟩) rfl _;have hg:=h.v.rts;have hl:(setL f (.root t) q).roots.length=f.roots.length:=by simp[setL]
 refine⟨⟨?_,h.v.nds.frm hF (fun g cs k=>k.type_ne hg (by decide)) (h.v.nds.arr.type_ne hg (by decide)),h.v.ln,?_,by rw[hl];exact h.v.rs,h.v.com.frm hF fun g cs k=>k.type_ne hg (by decide)⟩,hF⟩
 ·have:=h.box.frm hF (h.box.type_ne hg (by decide))
  have e:aL A (setL f (.root t) q)=aL A f:=by unfold aL;rw[hl];rfl
  rw[e];exact this
 ·have:=hg.set (t*2+1) (.int .i64 q)
  rw[aLT _ _ _ (by simp;omega),List.set_append_left _ _ ht]at this;have e:(f.roots++A.rj).getD t (0,0)=f.roots.getD t (0,0):=by rw[cV,if_pos ht]
  rw[e]at this;exact this
structure ZrP(w:World)(S:Nat)(A:SA)(f:fZ)(t:Nat)(r:Ending)(w':World):Prop where
 frm:Frm (fun k=>k=A.ga) w w'
 no:shadow f (.root t)=none→r=.returned (.int .i64 (-1))
 yes:∀g c,shadow f (.root t)=some (g,c)→r=.returned (.int .i64 c)∧∃A' f',Sp w' S A' f'∧SaS A A'∧f'.roots=f.roots∧g.roots=(setL f' (.root t) c).roots∧(∀x d,g.nodes x=some d→f'.nodes x=some d)∧g.cur.length=f'.cur.length∧g.next=f'.next∧g.gen=f'.gen∧g.com=f'.com
theorem mE{f:fZ}(hI:IC f)(hE:∀b d,f.nodes b=some d→d.2.length≤10)(w:World)(S:Nat)(A:SA)(h:Sp w S A f)(h16:f.roots.length≤16)(t:Nat)(ht:t<f.roots.length):
  Calls Tryz.prog 87 #[.pointer (some ⟨S,0,none⟩),.int .i64 (aB f t)] w (ZrP w S A f t):=by
 obtain⟨d,hd⟩:=hI.root_live (aP ht);refine(nT hI hE w S A h h16 (aB f t) d hd).mono ?_;intro r w' hz;rcases qO hI ht hd with⟨ho,hs,he⟩ | ⟨ho,hl,hs⟩ | ⟨ho,hl,g,hs,h1,h2,h3⟩
 ·obtain⟨rfl,hb⟩:=hz.own ho
  refine⟨Frm.of_below hb,fun q=>(by rw[hs]at q;cases q),fun g c q=>?_⟩;rw[hs]at q;cases q;exact⟨rfl,A,f,h.below hb,SaS.refl _,rfl,he.symm,fun _ _ q=>q,rfl,rfl,rfl,rfl⟩
 ·obtain⟨rfl,hb⟩:=hz.no ho hl
  exact⟨Frm.of_below hb,fun _=>rfl,fun g c q=>(by rw[hs]at q;cases q)⟩
 ·obtain⟨rfl,hS,hF⟩:=hz.yes ho hl
  refine⟨hF,fun q=>(by rw[hs]at q;cases q),fun g' c q=>?_⟩;rw[hs]at q;cases q;exact⟨rfl,_,_,hS,SaS.setN _ _ _,rfl,h1,h3,h2.cur,h2.next,h2.gen,h2.com⟩
structure ZqP(w:World)(S:Nat)(A:SA)(r:Option fZ)(e:Ending)(w':World):Prop where
 frm:Frm (fun k=>k=A.ga∨k=A.gr) w w'
 no:r=none→e=.returned (.bool false)
 yes:∀g,r=some g→e=.returned (.bool true)∧∃A',Sp w' S A' g∧SaS A A'
theorem ZpP.frm{w:World}{S:Nat}{A:SA}{r:Option fZ}{e:Ending}{w2:World}(h:ZpP w S A r e w2):Frm (fun k=>k=A.ga) w w2:=by
 cases r with
 | none=>exact(h.no rfl).2
 | some g=>exact(h.yes g rfl).2.frm
theorem ZpP.toQ{w w1:World}{S:Nat}{A A1:SA}{r:Option fZ}{e:Ending}{w2:World}(hF:Frm (fun k=>k=A.ga∨k=A.gr) w w1)(hA:SaS A A1)(h:ZpP w1 S A1 r e w2):ZqP w S A r e w2:=by
 refine⟨hF.trans (h.frm.wide fun k _ e=>.inl (e.trans hA.ga)),fun q=>(h.no q).1,fun g q=>?_⟩;obtain⟨h1,⟨A2,h2,h3⟩,_⟩:=h.yes g q;exact⟨h1,A2,h2,hA.trans h3⟩
theorem aLS(w:World)(a b:E3){g:Nat}(hg:g=w.heap.size):yE.Sl (w.alloc (.cells #[.string a.1,.string a.2.1,.int .i64 a.2.2,.string b.1,.string b.2.1,.int .i64 b.2.2] 110)) (.slice (some ⟨g,0,none⟩) 2 2) [a,b]:=by
 subst hg;exact .inr ⟨w.heap.size,0,2,[a,b],by simp,IsC.new _ _ _,by simp,by simp⟩
theorem aDX{f:fZ}{t H:Nat}{key val:ByteArray}(wk:Wk f t H)(hV:VE f)(h16:f.roots.length≤16)(w:World)(S:Nat)(A:SA)(hS:Sp w S A f):
  Calls Tryz.prog 69 #[.pointer (some ⟨S,0,none⟩),.int .i64 t,.string key,.string val] w (ZqP w S A ((put f t H key val).map Prod.fst)):=by
 have hbn:=gQ;have hbe:=iT;have ht:=wk.tl;have hE:=fun b' d' (hd':f.nodes b'=some d')=>(by have:=wk.ent hd';omega:d'.2.length≤10);obtain⟨_,s1,s2,_⟩:=hS.cells;obtain⟨r0,r1⟩:=hS.v.root ht;have h0:0≤(f.roots.getD t (0,0)).2:=(wk.ic.rb _ (aP ht)).1;have hrb:(f.roots.getD t (0,0)).2=(aB f t:Int):=by unfold aB;omega
 rw[hrb]at r1;have htI:(t:Int) <(f.roots.length:Int):=by omega
 have HSH:=aA (mE wk.ic hE w S A hS h16 t ht);have HPU:Hid (put f t H key val=match shadow f (.root t)with
  | none=>none
  | some (g,r)=>if(Fo.look g r).2.length=5 then match bM g t r with
   | none=>none
   | some (k,top)=>putAt (H+1) k top key val
   else putAt H g r key val):=rfl
 generalize put f t H key val=PU at *;clear hE hrb h0 r0;go_enter Tryz.func69,Tryz.ntmps69;go_wp2_with fail;refine HSH.out.mono ?_;intro r w1 hz;obtain⟨hF1,hzn,hzy⟩:=hz;cases hsh:shadow f (.root t)with
 | none=>
  obtain rfl:=hzn hsh;have HP:Hid (PU=none):=by show PU=none;rw[HPU.out];rw[hsh]
  clear hzn hzy hsh;go_wp2;go_ret;rw[HP.out];exact⟨hF1.wide fun _ _ e=>.inl e,fun _=>rfl,fun g q=>by cases q⟩
 | some gc=>
  obtain⟨g,r⟩:=gc;obtain⟨rfl,A1,f1,hS1,hA1,hr1,hr2,hn1,hn2,hn3,hn4,hn5⟩:=hzy g r hsh;obtain⟨wk1,p1,a1,a2,a3,a4,a5,a6⟩:=wk.shadow_root hsh;have hVg:=hV.shadow_root hsh;rw[hsh]at HPU;simp only at HPU;have ht1:t<f1.roots.length:=by rw[hr1];exact ht
  obtain⟨hS2,hF2⟩:=hS1.setRoot ht1 r;have hS3:Sp (w1.setCell ⟨A1.gr,t*2+1,none⟩ (.int .i64 r)) S A1 g:=hS2.sub hn1 hn2 hr2 hn3 hn4 hn5;obtain⟨_,t1,t2,_⟩:=hS1.cells;obtain⟨_,z1⟩:=hS1.v.root ht1;have z2:=hS1.v.rts.frozen (t*2+1);have hF3:Frm (fun k=>k=A.ga∨k=A.gr) w (w1.setCell ⟨A1.gr,t*2+1,none⟩ (.int .i64 r)):=(hF1.wide fun _ _ e=>.inl e).trans (hF2.wide fun _ _ e=>.inr (e.trans hA1.gr));obtain⟨w2,hw2⟩:=eZ (w1.setCell ⟨A1.gr,t*2+1,none⟩ (.int .i64 r));rw[hw2]at hS3 hF3;obtain⟨⟨k,es⟩,hd⟩:=wk1.ic.live (x:=r) (by rw[a3];omega);have hcl:=wk1.ent hd;simp only at hcl;obtain⟨_,u1,u2,_⟩:=hS3.cells;obtain⟨ac,cpc,hslc,hcA,_,d0,d1,hcpc⟩:=hS3.v.nds.at hd;simp only at hslc d0 d1 hcpc;have hrI:(r:Int) <(A1.ns.length:Int):=by omega
  have ht1I:(t:Int) <(f1.roots.length:Int):=by omega
  have hr0:¬((r:Int)<0):=by omega
  have HRT:Hid (g.roots.length≤16):=by show g.roots.length≤16;rw[a6.len];exact h16
  have HX:=aA hS3;have HF:=aA hF3;have HA:=aA hA1;rw[aE hd]at HPU;simp only at HPU;clear hzn hzy hsh hF1 hF2 hF3 hS1 hS2 hS3 hr1 hr2 hn1 hn2 hn3 hn4 hn5 hA1 HSH a6;go_upto_if 43 with fail
  clear hw2;by_cases hf5:es.length=5
  ·have hfb:((es.length:Int) == 5)=true:=by rw[hf5];rfl
   rw[hfb];rw[if_pos hf5]at HPU;have H5:=aA hf5;clear hf5 hfb;have hE2:=fun b' d' (hd':g.nodes b'=some d')=>(by have:=wk1.ent hd';omega:d'.2.length≤10);have hKK:=wk1.ic.counts HRT.out hE2;have HT:=aA (mZ g);have HTK:=aA fun(w':World) (hb:Bl w2 w') (x:Int)=>mP wk1.ic hKK hE2 w' S A1 (HX.out.below hb) (by have:=HRT.out;omega) x;clear hE2 hslc hKK;have HTK1:=aA (HTK.out w2 (bQ _ _) (-1));go_wp2_with fail;refine HTK1.out.mono ?_;rintro r2 w3 ⟨rfl,hb3⟩;rw[HT.out];unfold bM at HPU;rw[aE hd]at HPU;simp only at HPU;by_cases hl0:aF g=0
   ·rw[if_pos hl0]
    rw[if_pos hl0]at HPU;have HP:Hid (PU=none):=HPU.out;clear hl0 HPU;go_wp2;go_ret;rw[HP.out];exact⟨HF.out.trans (Frm.of_below hb3),fun _=>rfl,fun g q=>by cases q⟩
   ·rw[if_neg hl0]
    rw[if_neg hl0]at HPU;obtain⟨l1,l2,l3,l4⟩:=aQ hl0;have HT2:=aA (aCD (f:=g) (g:=setN g r (k,es.take 3)) (d:=(k,es.drop 3)) rfl rfl l2);have HTK2:=aA (HTK.out w3 hb3 (aF g));generalize hTp:aF (takeAt (setN g r (k,es.take 3)) (aF g) (k,es.drop 3))=tp at *;have hTp':=aA hTp;clear hTp;obtain⟨q,hq⟩:=eZ (aF g);rw[hq]at HT2 HTK2;have hq0:¬((q:Int)<0):=by omega
    have HQ:=aA hq;rw[hq];clear hq;go_wp2_with fail;refine HTK2.out.mono ?_;rintro r3 w4 ⟨rfl,hb4⟩;rw[HT2.out];by_cases hl1:tp=0
    ·rw[if_pos hl1]
     rw[if_pos hl1]at HPU;have HP:Hid (PU=none):=HPU.out;clear hl1 HPU;go_wp2;go_ret;rw[HP.out];exact⟨(HF.out.trans (Frm.of_below hb3)).trans (Frm.of_below hb4),fun _=>rfl,fun g q=>by cases q⟩
    ·rw[if_neg hl1]
     rw[if_neg hl1,HQ.out]at HPU;have HP:Hid (PU=putAt (H+1) (growF g t r k es 3 q tp (ky es 0) (ky es 3)) tp key val):=HPU.out;rw[HQ.out]at l1 l2 l3 l4;obtain⟨m1,m2,m3,m4⟩:=aQ (f:=takeAt (setN g r (k,es.take 3)) (aF g) (k,es.drop 3)) (by rw[hTp'.out];exact hl1);rw[hTp'.out]at m1 m2 m3;rw[HQ.out]at m2 m3;have hcu:∀x,cu (takeAt (setN g r (k,es.take 3)) q (k,es.drop 3)) x=if q=x then 1 else cu g x:=fun x=>dT (f:=setN g r (k,es.take 3)) (k,es.drop 3) l2 x;rw[hcu]at m3;have htq:tp≠q:=fun e=>by rw[if_pos e.symm]at m3;omega
     rw[if_neg (Ne.symm htq)]at m3;have m2':tp<g.cur.length:=by simpa [takeAt,setN] using m2
     subst a1;obtain⟨wk2,p2,_,_,b3⟩:=wk1.grow a3 hd (m:=3) (by omega) (by have:=H5.out;omega) l1 l2 l3 m1 m2' m3 htq;have hVs:=hVg.growF t (aB g t) k (hVg _ _ hd) 3 q tp (ky es 0) (ky es 3);have hrq:aB g t≠q:=fun e=>by rw[e]at a3;omega
     have hrt:aB g t≠tp:=fun e=>by rw[e]at a3;omega
     have hsz:sz (growF g t (aB g t) k es 3 q tp (ky es 0) (ky es 3)).nodes tp<5:=by unfold sz;rw[b3];simp
     have hRs:(growF g t (aB g t) k es 3 q tp (ky es 0) (ky es 3)).roots.length≤16:=by
      have:(growF g t (aB g t) k es 3 q tp (ky es 0) (ky es 3)).roots.length=g.roots.length:=(aW.growF ..).len
      rw[this];exact HRT.out
     have hX4:=(HX.out.below hb3).below hb4;have HHF:=aA (sE w4 S A1 hX4 (aB g t) q k es hd H5.out (wk1.ic.lt hd) l2 hrq);have htl:t<g.roots.length:=wk1.tl;have HFN:Hid (∀(A':SA) (w':World) (x:NV),Sp w' S A' (setN (setN g q (k,es.drop 3)) (aB g t) (k,es.take 3))→NdR w' x (2,[(ky es 0,.empty,(aB g t:Int)),(ky es 3,.empty,(q:Int))])→Sp ((set2 w' A'.ga tp x).setCell ⟨A'.gr,t*2+1,none⟩ (.int .i64 tp)) S (A'.setN tp x) (growF g t (aB g t) k es 3 q tp (ky es 0) (ky es 3))∧Frm (fun k=>k=A'.ga∨k=A'.gr) w' ((set2 w' A'.ga tp x).setCell ⟨A'.gr,t*2+1,none⟩ (.int .i64 tp))):=fun A' w' x hsp hx=>by
      have h1:=hsp.set2 (q:=tp) m2' hx;obtain⟨h2,h3⟩:=h1.setRoot (t:=t) htl tp;refine⟨h2.sub (fun z d' hz=>?_) (by simp[growF,setL,takeAt,setN]) rfl rfl rfl rfl,((eF w' A'.ga tp x).wide fun _ _ e=>.inl e).trans (h3.wide fun _ _ e=>.inr e)⟩;have hz':upd (upd (upd g.nodes (aB g t) (some (k,es.take 3))) q (some (k,es.drop 3))) tp (some (2,[(ky es 0,.empty,(aB g t:Int)),(ky es 3,.empty,(q:Int))])) z=some d':=hz;show upd (upd (upd g.nodes q (some (k,es.drop 3))) (aB g t) (some (k,es.take 3))) tp _ z=some d'
      by_cases e1:z=tp
      ·rw[e1,aD]at hz' ⊢;exact hz'
      ·rw[aC _ _ e1]at hz' ⊢
       by_cases e2:z=aB g t
       ·rw[e2,aC _ _ hrq,aD]at hz'
        rw[e2,aD];exact hz'
       ·rw[aC _ _ e2]
        by_cases e3:z=q
        ·rw[e3,aD]at hz' ⊢;exact hz'
        ·rw[aC _ _ e3,aC _ _ e2]at hz'
         rw[aC _ _ e3];exact hz'
     have hq7:(setN (setN g q (k,es.drop 3)) (aB g t) (k,es.take 3)).nodes q=some (k,es.drop 3):=by
      show upd (upd g.nodes q _) (aB g t) _ q=_
      rw[aC _ _ (Ne.symm hrq),aD]
     have hr7:(setN (setN g q (k,es.drop 3)) (aB g t) (k,es.take 3)).nodes (aB g t)=some (k,es.take 3):=aD _ _ _;have hl7:(setN (setN g q (k,es.drop 3)) (aB g t) (k,es.take 3)).cur.length=g.cur.length:=rfl;have hro7:(setN (setN g q (k,es.drop 3)) (aB g t) (k,es.take 3)).roots=g.roots:=rfl;have hdr0:((es.drop 3).getD 0 e0).1=ky es 3:=by rw[eU];rfl
     have htk0:((es.take 3).getD 0 e0).1=ky es 0:=by rw[fV _ _ _ (by omega)];rfl
     have hdl:0 <(es.drop 3).length:=by rw[List.length_drop,H5.out];omega
     have htl3:0 <(es.take 3).length:=by rw[List.length_take,H5.out];omega
     have HIH:=aA fun(w':World) (A':SA) (hsp:Sp w' S A' (growF g t (aB g t) k es 3 q tp (ky es 0) (ky es 3)))=>kK (key:=key) (val:=val) (H+1) _ tp [] none none wk2 p2 trivial trivial hsz hVs hRs w' S A' hsp;generalize setN (setN g q (k,es.drop 3)) (aB g t) (k,es.take 3)=g7 at *;generalize growF g t (aB g t) k es 3 q tp (ky es 0) (ky es 3)=gs at *;generalize es.drop 3=dr at *;generalize es.take 3=tk at *;generalize ky es 0=f0 at *;generalize ky es 3=f3 at *;generalize aB g t=r at *;clear HPU hl1 hTp' b3 wk2 p2 hsz hVs hRs HT2 HT HTK HTK1 HTK2;go_wp2_with fail;refine HHF.out.mono ?_;rintro rr w7 ⟨rfl,⟨⟨A7,hS7,hA7⟩,hF7⟩⟩;obtain⟨_,t7,t8,_⟩:=hS7.cells;obtain⟨aq,cpq,hslq,hqA,_,_,e1',_⟩:=hS7.v.nds.at hq7;obtain⟨ar,cpr,hslr,hrA,_,_,e2',_⟩:=hS7.v.nds.at hr7;simp only at hslq e1' hslr e2';obtain⟨gq,oq,cq',heq,hgq,hcq7⟩:=dZ hslq hdl;cases heq;obtain⟨gr',or',cr',her,hgr',hcr7⟩:=dZ hslr htl3;cases her;obtain⟨y0,_,_⟩:=hcq7 w7 0 rfl hdl;obtain⟨x0,_,_⟩:=hcr7 w7 0 rfl htl3;rw[hdr0]at y0;rw[htk0]at x0;simp only[Nat.zero_mul,Nat.add_zero]at x0 y0;have hdrI:(0:Int) <(dr.length:Int):=by omega
     have htkI:(0:Int) <(tk.length:Int):=by omega
     have hqI:(q:Int) <(A7.ns.length:Int):=by omega
     have hrI7:(r:Int) <(A7.ns.length:Int):=by omega
     have htp7:tp<g7.cur.length:=by rw[hl7];exact m2'
     have htl7:(t:Int) <(g7.roots.length:Int):=by rw[hro7];omega
     have hSg7:S≠A7.ga:=hS7.box.type_ne hS7.v.nds.arr (by decide);obtain⟨B,hB⟩:=eZ (w7.heap.size);obtain⟨w8,hw8⟩:=eZ (w7.alloc (.cells #[.string f0,.string {data:=#[]},.int .i64 r] 110));have hb8:=bAl hw8;have hs8:w8.heap.size=B+1:=by rw[←hw8,←hB];simp
     obtain⟨B2,hB2s⟩:=eZ (w8.heap.size);obtain⟨w9,hw9⟩:=eZ (w8.alloc (.cells #[.string f3,.string {data:=#[]},.int .i64 q] 110));have hb9:=bAl hw9;have hs9:w9.heap.size=B+2:=by rw[←hw9];simp;omega
     obtain⟨B3,hB3s⟩:=eZ (w9.heap.size);have hB1:=iNw hw8 hB;have hB1':=hB1.of (hb9.block _ hB1.lt);have hB2:=iNw hw9 hB2s;have hb79:=hb8.trans (hb9.mono hb8.size);have hX8:=hS7.below hb8;have hX9:=hS7.below hb79;obtain⟨_,t78,_⟩:=hX8.cells;obtain⟨_,t79,t89,_⟩:=hX9.cells;have e18:w8.cell? ⟨A7.ga,q*2+1,none⟩=some (.slice (some ⟨gq,oq,none⟩) dr.length cpq):=(hb8.cell (p:=⟨A7.ga,_,none⟩) hS7.v.nds.arr.lt).trans e1';have y08:w8.cell? ⟨gq,oq,none⟩=some (.string f3):=(hb8.cell (p:=⟨gq,_,none⟩) hgq).trans y0;have c0:w9.cell? ⟨B,0,none⟩=some (.string f0):=hB1'.c rfl;have c1:w9.cell? ⟨B,1,none⟩=some (.string {data:=#[]}):=hB1'.c rfl;have c2:w9.cell? ⟨B,2,none⟩=some (.int .i64 r):=hB1'.c rfl;have c3:w9.cell? ⟨B2,0,none⟩=some (.string f3):=hB2.c rfl;have c4:w9.cell? ⟨B2,1,none⟩=some (.string {data:=#[]}):=hB2.c rfl;have c5:w9.cell? ⟨B2,2,none⟩=some (.int .i64 q):=hB2.c rfl;have HFN7:=aA fun(w':World) (x:NV) (hb:Bl w7 w') (hx:NdR w' x (2,[(f0,.empty,(r:Int)),(f3,.empty,(q:Int))]))=>HFN.out A7 w' x (hS7.below hb) hx;have HF7:Hid (Frm (fun k=>k=A.ga∨k=A.gr) w w7):=(((HF.out.trans (Frm.of_below hb3)).trans (Frm.of_below hb4)).trans (hF7.wide fun k _ e=>.inl (e.trans HA.out.ga)));have HA7:Hid (SaS A A7):=HA.out.trans hA7;have HB79:=aA hb79;have HX9:=aA hX9;have HSZ:=aA (aI hs8 hs9);have hBga:B≠A7.ga:=by have:=hS7.v.nds.arr.lt;omega
     have hBga1:B2≠A7.ga:=by have:=hS7.v.nds.arr.lt;omega
     have HROOT:=aA fun(w':World) (hb:Bl w7 w')=>(hS7.below hb).cells.2.2.1;clear hslq hslr hcq7 hcr7 hF7 hA7 hX4 hdl htl3 hl7 hdr0 htk0 hro7 hX8 hX9 hB1 hB1' hB2 hb8 hb9 hb79 HFN hs8 hs9;have hX10:=HX9.out.below ((bQ w9.heap.size w9).alloc (nR _) (.cells #[.string f0,.string {data:=#[]},.int .i64 r,.string f3,.string {data:=#[]},.int .i64 q] 110));obtain⟨k0,k1,hk0,hk1,hz0,hz1,htpI⟩:=hX10.wr htp7;have hSl2:=aLS w9 (f0,.empty,(r:Int)) (f3,.empty,(q:Int)) rfl;have hb710:Bl w7 (w9.alloc (.cells #[.string f0,.string {data:=#[]},.int .i64 r,.string f3,.string {data:=#[]},.int .i64 q] 110)):=HB79.out.alloc HB79.out.size _;rw[hB3s]at hSl2;obtain⟨w10,hw10⟩:=eZ (w9.alloc (.cells #[.string f0,.string {data:=#[]},.int .i64 r,.string f3,.string {data:=#[]},.int .i64 q] 110));have hSl3:yE.Sl w10 (.slice (some ⟨B3,0,none⟩) 2 2) [(f0,.empty,(r:Int)),(f3,.empty,(q:Int))]:=by rw[←hw10];exact hSl2
     rw[hw10]at hk0 hk1 hz0 hz1 hb710 hX10;have hNd10:NdR w10 ((2:Int),some (⟨B3,0,none⟩:Addr),2,2) (2,[(f0,.empty,(r:Int)),(f3,.empty,(q:Int))]):=⟨rfl,hSl3,nR _⟩;obtain⟨hX11,hF11⟩:=HFN7.out w10 _ hb710 hNd10;have HX11:=aA hX11;have HF11:Hid (Frm (fun k=>k=A.ga∨k=A.gr) w ((set2 w10 A7.ga tp (2,some ⟨B3,0,none⟩,2,2)).setCell ⟨A7.gr,t*2+1,none⟩ (.int .i64 tp))):=(HF7.out.trans (Frm.of_below hb710)).trans (hF11.wide fun k _ e=>e.elim (fun e=>.inl (e.trans HA7.out.ga)) fun e=>.inr (e.trans HA7.out.gr));have v2:(set2 w10 A7.ga tp (2,some ⟨B3,0,none⟩,2,2)).drew.cell? ⟨S,2,none⟩=some (.slice (some ⟨A7.gr,0,none⟩) g7.roots.length (g7.roots.length+A7.rj.length)):=(hX10.set2 htp7 hNd10).drew.cells.2.2.1;have v3:(set2 w10 A7.ga tp (2,some ⟨B3,0,none⟩,2,2)).drew.cell? ⟨A7.gr,t*2+1,none⟩=some (.int .i64 (g7.roots.getD t (0,0)).2):=((hX10.set2 htp7 hNd10).drew.v.root (t:=t) (show t<g7.roots.length by omega)).2;have v4:(set2 w10 A7.ga tp (2,some ⟨B3,0,none⟩,2,2)).drew.frozen? ⟨A7.gr,t*2+1,none⟩=false:=(hX10.set2 htp7 hNd10).drew.v.rts.frozen (t*2+1);have hs2e:(w10.setCell ⟨A7.ga,tp*2,none⟩ (.int .i64 2)).setCell ⟨A7.ga,tp*2+1,none⟩ (.slice (some ⟨B3,0,none⟩) 2 2)=set2 w10 A7.ga tp (2,some ⟨B3,0,none⟩,2,2):=rfl;have hb910:=bAl hw10;have hXX1:w10.drew.cell? ⟨S,1,none⟩=some (.slice (some ⟨A7.ga,0,none⟩) A7.ns.length (A7.ns.length+A7.nj.length)):=hX10.drew.cells.2.1;have hlB:B<w9.heap.size∧B2<w9.heap.size:=by have:=HSZ.out;omega
     have hXX2:w10.drew.cell? ⟨B,0,none⟩=some (.string f0):=(hb910.cell (p:=⟨B,_,none⟩) hlB.1).trans c0;have hXX3:w10.drew.cell? ⟨B,1,none⟩=some (.string {data:=#[]}):=(hb910.cell (p:=⟨B,_,none⟩) hlB.1).trans c1;have hXX4:w10.drew.cell? ⟨B,2,none⟩=some (.int .i64 r):=(hb910.cell (p:=⟨B,_,none⟩) hlB.1).trans c2;have hXX5:w10.drew.cell? ⟨B2,0,none⟩=some (.string f3):=(hb910.cell (p:=⟨B2,_,none⟩) hlB.2).trans c3;have hXX6:w10.drew.cell? ⟨B2,1,none⟩=some (.string {data:=#[]}):=(hb910.cell (p:=⟨B2,_,none⟩) hlB.2).trans c4;have hXX7:w10.drew.cell? ⟨B2,2,none⟩=some (.int .i64 q):=(hb910.cell (p:=⟨B2,_,none⟩) hlB.2).trans c5;have HXX:=aA (aI hXX1 (aI hXX2 (aI hXX3 (aI hXX4 (aI hXX5 (aI hXX6 hXX7))))));have HXY:Hid (∀v0 v1,((w10.drew.setCell ⟨A7.ga,tp*2,none⟩ v0).setCell ⟨A7.ga,tp*2+1,none⟩ v1).drew.cell? ⟨S,1,none⟩=some (.slice (some ⟨A7.ga,0,none⟩) A7.ns.length (A7.ns.length+A7.nj.length))∧((w10.drew.setCell ⟨A7.ga,tp*2,none⟩ v0).setCell ⟨A7.ga,tp*2+1,none⟩ v1).drew.cell? ⟨B,0,none⟩=some (.string f0)∧((w10.drew.setCell ⟨A7.ga,tp*2,none⟩ v0).setCell ⟨A7.ga,tp*2+1,none⟩ v1).drew.cell? ⟨B,1,none⟩=some (.string {data:=#[]})∧((w10.drew.setCell ⟨A7.ga,tp*2,none⟩ v0).setCell ⟨A7.ga,tp*2+1,none⟩ v1).drew.cell? ⟨B,2,none⟩=some (.int .i64 r)∧((w10.drew.setCell ⟨A7.ga,tp*2,none⟩ v0).setCell ⟨A7.ga,tp*2+1,none⟩ v1).drew.cell? ⟨B2,0,none⟩=some (.string f3)∧((w10.drew.setCell ⟨A7.ga,tp*2,none⟩ v0).setCell ⟨A7.ga,tp*2+1,none⟩ v1).drew.cell? ⟨B2,1,none⟩=some (.string {data:=#[]})∧((w10.drew.setCell ⟨A7.ga,tp*2,none⟩ v0).setCell ⟨A7.ga,tp*2+1,none⟩ v1).drew.cell? ⟨B2,2,none⟩=some (.int .i64 q)):=fun v0 v1=>⟨bV hSg7 hXX1,bV hBga hXX2,bV hBga hXX3,bV hBga hXX4,bV hBga1 hXX5,bV hBga1 hXX6,bV hBga1 hXX7⟩;clear hX10 hX11 hF11 hNd10 hSl3 hSl2 hb710 hXX1 hXX2 hXX3 hXX4 hXX5 hXX6 hXX7 hlB hb910;go_wp2_with fail;go_region_held3 (fun W=>W.cell? ⟨S,1,none⟩=some (.slice (some ⟨A7.ga,0,none⟩) A7.ns.length (A7.ns.length+A7.nj.length))∧W.cell? ⟨B,0,none⟩=some (.string f0)∧W.cell? ⟨B,1,none⟩=some (.string {data:=#[]})∧W.cell? ⟨B,2,none⟩=some (.int .i64 r)∧W.cell? ⟨B2,0,none⟩=some (.string f3)∧W.cell? ⟨B2,1,none⟩=some (.string {data:=#[]})∧W.cell? ⟨B2,2,none⟩=some (.int .i64 q)) (first | exact HXX.out | exact HXY.out _ _ | assumption | go_keep) ((fail));have hSF:Sp ((set2 w10 A7.ga tp (2,some ⟨B3,0,none⟩,2,2)).drew.setCell ⟨A7.gr,t*2+1,none⟩ (.int .i64 tp)) S (A7.setN tp (2,some ⟨B3,0,none⟩,2,2)) gs:=HX11.out.drew;have hFF:Frm (fun k=>k=A.ga∨k=A.gr) w ((set2 w10 A7.ga tp (2,some ⟨B3,0,none⟩,2,2)).drew.setCell ⟨A7.gr,t*2+1,none⟩ (.int .i64 tp)):=HF11.out.trans (Frm.drew _ _);have HIH2:=aA (HIH.out _ _ hSF);have HFF:=aA hFF;clear hSF hFF hs2e;generalize (set2 w10 A7.ga tp (2,some ⟨B3,0,none⟩,2,2)).drew=w12 at *;obtain⟨w13,hw13⟩:=eZ (w12.setCell ⟨A7.gr,t*2+1,none⟩ (.int .i64 tp));rw[hw13]at HIH2 HFF;go_wp2_with fail;refine HIH2.out.mono ?_;intro e w6 hz;obtain⟨v,rfl⟩:=hz.ret;have HZ:Hid (ZqP w S A (PU.map Prod.fst) (.returned (.bool v)) w6):=by
      show ZqP _ _ _ _ _ _
      rw[HP.out];exact hz.toQ HFF.out (HA7.out.trans (SaS.setN _ _ _))
     clear hz;go_wp2;go_ret;exact HZ.out
  ·have hfb:((es.length:Int) == 5)=false:=by rw[beq_eq_false_iff_ne];omega
   rw[hfb];rw[if_neg hf5]at HPU;have HIH:=aA (kK (key:=key) (val:=val) H g r [] none none wk1 p1 trivial trivial (by unfold sz;rw[hd];simp only;omega) hVg HRT.out w2 S A1 HX.out);clear hf5 hfb hslc;go_wp2_with fail;refine HIH.out.mono ?_;intro e w6 hz;obtain⟨v,rfl⟩:=hz.ret;have HZ:Hid (ZqP w S A (PU.map Prod.fst) (.returned (.bool v)) w6):=by
    show ZqP _ _ _ _ _ _
    rw[HPU.out];exact hz.toQ HF.out HA.out
   clear hz;go_wp2;go_ret;exact HZ.out
structure MkP(w:World)(S:Nat)(A:SA)(b:Nat)(k:Int)(l:List E3)(r:Ending)(w':World):Prop where
 ex:∃x:NV,r=.returned (.slice x.2.1 x.2.2.1 x.2.2.2)∧x.1=k∧NdR w' x (k,l)
 bel:Bl w w'
 s1:w'.cell? ⟨S,1,none⟩=some (.slice (some ⟨A.ga,0,none⟩) A.ns.length (A.ns.length+A.nj.length))
 wr:∃k0 k1,w'.cell? ⟨A.ga,b*2,none⟩=some k0∧w'.cell? ⟨A.ga,b*2+1,none⟩=some k1∧w'.frozen? ⟨A.ga,b*2,none⟩=false∧w'.frozen? ⟨A.ga,b*2+1,none⟩=false
theorem Sp.made{w w':World}{S:Nat}{A:SA}{f:fZ}(h:Sp w S A f){b:Nat}(hb:b<f.cur.length){k:Int}{l:List E3}{u:Value}(hu:yE.Own w.heap.size w' u l)(hB:Below w.heap.size w.drew w'):MkP w S A b k l (.returned u) w':=by
 obtain⟨x,rfl,h1,h2⟩:=hu.nv k;have hB':Bl w w':=(bQ _ w).drew.trans hB;obtain⟨k0,k1,y1,y2,y3,y4,_⟩:=(h.below hB').wr hb;exact⟨⟨x,rfl,h1,h2⟩,hB',(h.below hB').cells.2.1,k0,k1,y1,y2,y3,y4⟩
theorem Sp.joinM{w:World}{S:Nat}{A:SA}{f:fZ}(h:Sp w S A f){v v':Value}{es fs:List E3}(hv:yE.Sl w v es)(hv':yE.Sl w v' fs)(hl:es.length≤100)(hl':fs.length≤100)(k:Int){b:Nat}(hb:b<f.cur.length):Calls Tryz.prog 108 #[v,v'] w.drew (MkP w S A b k (es++fs)):=by
 refine(mX v v' es fs w.drew (hv.below (bQ _ w).drew) (hv'.below (bQ _ w).drew) hl hl').mono ?_;rintro r w1 ⟨u,rfl,hu,hb1⟩;exact h.made hb hu hb1
theorem Sp.withoutM{w:World}{S:Nat}{A:SA}{f:fZ}(h:Sp w S A f){v:Value}{es:List E3}{i:Nat}(hv:yE.Sl w v es)(hi:i<es.length)(hl:es.length≤100)(k:Int){b:Nat}(hb:b<f.cur.length):Calls Tryz.prog 96 #[v,.int .i64 i] w.drew (MkP w S A b k (delE es i)):=by
 refine(uQ v es i w.drew (hv.below (bQ _ w).drew) hi hl).mono ?_;rintro r w1 ⟨u,rfl,hu,hb1⟩;exact h.made hb hu hb1
theorem Sp.swapM{w:World}{S:Nat}{A:SA}{f:fZ}(h:Sp w S A f){v:Value}{es:List E3}{i:Nat}(e:E3)(hv:yE.Sl w v es)(hi:i<es.length)(hl:es.length≤100)(k:Int){b:Nat}(hb:b<f.cur.length):Calls Tryz.prog 94 #[v,.int .i64 i,.agg #[.string e.1,.string e.2.1,.int .i64 e.2.2]] w.drew (MkP w S A b k (es.set i e)):=by
 refine(eR v es i e w.drew (hv.below (bQ _ w).drew) hi hl).mono ?_;rintro r w1 ⟨u,rfl,hu,hb1⟩;exact h.made hb hu hb1
theorem Sp.insM{w:World}{S:Nat}{A:SA}{f:fZ}(h:Sp w S A f){v:Value}{es:List E3}{i:Nat}(e:E3)(hv:yE.Sl w v es)(hi:i≤es.length)(hl:es.length≤100)(k:Int){b:Nat}(hb:b<f.cur.length):Calls Tryz.prog 109 #[v,.int .i64 i,.agg #[.string e.1,.string e.2.1,.int .i64 e.2.2]] w.drew (MkP w S A b k (insE es i e)):=by
 refine(oH v es i e w.drew (hv.below (bQ _ w).drew) hi hl).mono ?_;rintro r w1 ⟨u,rfl,hu,hb1⟩;exact h.made hb hu hb1
theorem Sp.slF{w w':World}{S:Nat}{A:SA}{f:fZ}(h:Sp w S A f){v:Value}{l:List E3}(hv:yE.Sl w v l)(hF:Frm (fun k=>k=A.ga) w w'):yE.Sl w' v l:=hv.frm hF fun g cs hg=>hg.type_ne h.v.nds.arr (by decide)
theorem rR{g:fZ}{b c s:Nat}{k:Int}{ces pes:List E3}(x:Nat)(d:Nd)(h:(mergeF g b c s k ces pes).nodes x=some d):(setN (setN g c (k,ces)) b (2,pes)).nodes x=some d:=by
 unfold mergeF at h;rw[cN]at h;split at h
 ·by_cases e:x=s
  ·rw[e,aD]at h;cases h
  ·rw[aC _ _ e]at h;exact h
 ·exact h
theorem pH(g:fZ)(b c s:Nat)(k:Int)(ces pes:List E3):(mergeF g b c s k ces pes).roots=g.roots:=by
 unfold mergeF letGo;split<;>rfl
theorem aKI{W:World}{g q s:Nat}{x v0 v1:Value}(hne:s≠q)(h:W.cell? ⟨g,s*2+1,none⟩=some x):((W.setCell ⟨g,q*2,none⟩ v0).setCell ⟨g,q*2+1,none⟩ v1).drew.cell? ⟨g,s*2+1,none⟩=some x:=by
 rw[jH _ _ _ _ _ (.inr ⟨by omega,by omega⟩)];exact h
structure Wd(g:fZ)(b:Nat)(es:List E3)(i j:Nat)(k:Int)(ces ses:List E3):Prop where
 ic:IC g
 ve:VE g
 r16:g.roots.length≤16
 ent:∀b d,g.nodes b=some d→d.2.length≤5
 hb:g.nodes b=some (2,es)
 hi:i<es.length
 hj:j<es.length
 hc:g.nodes (kd es i)=some (k,ces)
 hs:g.nodes (kd es j)=some (k,ses)
 bc:b≠kd es i
 bs:b≠kd es j
 cs:kd es i≠kd es j
 c2:ces.length=2
 s2:2≤ses.length
theorem oI{g:fZ}{b i:Nat}{es:List E3}{k:Int}{ces ses:List E3}(h:Wd g b es i (i+1) k ces ses)(h2:ses.length=2)(w:World)(S:Nat)(A:SA)(hS:Sp w S A g):
  Calls Tryz.prog 95 #[.pointer (some ⟨S,0,none⟩),.int .i64 b,.int .i64 i] w fun e w'=>e=.returned (.bool true)∧Zt w S A (mergeF g b (kd es i) (kd es (i+1)) k (ces++ses) (delE es (i+1))) w':=by
 have hbn:=gQ;have hel:=h.ent b _ h.hb;simp only at hel;have hbl:=h.ic.lt h.hb;have hcl:=h.ic.lt h.hc;obtain⟨v0,_⟩:=h.ve.inner h.ic h.hb h.hi;obtain⟨v1,_⟩:=h.ve.inner h.ic h.hb h.hj;obtain⟨_,s1,_⟩:=hS.cells;obtain⟨a,cp,hsl,hbA,_,_,c1,_⟩:=hS.v.nds.at h.hb;obtain⟨ac,cpc,hslc,hcA,_,d0,d1,_⟩:=hS.v.nds.at h.hc;obtain⟨as1,cps,hsls,hsA,_,_,e1,_⟩:=hS.v.nds.at h.hs;simp only at hsl c1 hslc d0 d1 hsls e1;obtain⟨g0,o0,cc,he,hg0,hcell⟩:=dZ hsl (by have:=h.hi;omega);cases he;obtain⟨_,_,x2⟩:=hcell w i rfl h.hi;have hne:g0≠A.ga:=by
  rcases hsl with⟨q,_⟩ | ⟨g',o',cap',xs,q,q1,_⟩
  ·cases q
  ·cases q;exact q1.type_ne hS.v.nds.arr (by decide)
 rw[v0]at x2;obtain⟨B,hB⟩:=eZ (w.heap.size);obtain⟨w0,hw0⟩:=eZ (w.alloc (.cells #[.int .i64 k,.slice ac ces.length cpc] 108));have hb0:=bAl hw0;have hbx:=iNw hw0 hB;obtain⟨_,_,y2⟩:=hcell w0 (i+1) (hb0.block _ hg0) h.hj;rw[v1]at y2;have hS0:=hS.below hb0;obtain⟨_,t1,_⟩:=hS0.cells;have e10:w0.cell? ⟨A.ga,kd es (i+1)*2+1,none⟩=some (.slice as1 ses.length cps):=(hb0.cell (p:=⟨A.ga,_,none⟩) hS.v.nds.arr.lt).trans e1;have b0:w0.cell? ⟨B,0,none⟩=some (.int .i64 k):=hbx.c rfl;have b1:w0.cell? ⟨B,1,none⟩=some (.slice ac ces.length cpc):=hbx.c rfl;have hSg:S≠A.ga:=hS.box.type_ne hS.v.nds.arr (by decide);have hBg:B≠A.ga:=by have:=hS.v.nds.arr.lt;omega
 have hbI:(b:Int) <(A.ns.length:Int):=by omega
 have hcI:(kd es i:Int) <(A.ns.length:Int):=by omega
 have hsI:(kd es (i+1):Int) <(A.ns.length:Int):=by omega
 have hiI:(i:Int) <(es.length:Int):=by have:=h.hi;omega
 obtain⟨i1,hi1⟩:=eZ (i+1);have hwr:IntKind.i64.wrap ((i:Int)+1)=(i1:Int):=(IntWalk.i64_in _ ⟨by omega,by omega⟩).trans (by omega);have hi1I:(i1:Int) <(es.length:Int):=by have:=h.hj;omega
 have hf2:((ses.length:Int) == 2)=true:=by rw[h2];rfl
 have HJ:=aA (hS0.joinM (hslc.below hb0) (hsls.below hb0) (by have:=h.c2;omega) (by omega) k hcl);have HWO:=aA fun(A1:SA) (f1:fZ) (w1:World) (h1:Sp w1 S A1 f1) (hF:Frm (fun k=>k=A.ga) w w1) (hl:b<f1.cur.length)=>h1.withoutM (hS.slF hsl hF) h.hj (by omega) 2 hl;have HSZ:=aA hS0;have HB0:=aA hb0;have hX:Hid (kd es (i+1)≠kd es i):=h.cs.symm;have HGO:Hid (∀w1,Bl w0 w1→w1.cell? ⟨B,0,none⟩=some (.int .i64 k)∧w1.cell? ⟨B,1,none⟩=some (.slice ac ces.length cpc)∧w1.cell? ⟨A.ga,kd es (i+1)*2+1,none⟩=some (.slice as1 ses.length cps)):=fun w1 hb=>by
  refine⟨?_,?_,?_⟩
  ·rw[(hbx.of (hb.block _ hbx.lt)).cell];rfl
  ·rw[(hbx.of (hb.block _ hbx.lt)).cell];rfl
  ·exact(hb.cell (p:=⟨A.ga,_,none⟩) hS0.v.nds.arr.lt).trans e10
 rw[hi1]at y2 e10 hsI HWO hX HGO;rw[hi1];obtain⟨q,hq⟩:=eZ (kd es i);obtain⟨s,hs⟩:=eZ (kd es i1);rw[hq]at x2 d0 d1 hcI HJ hX hcl;rw[hs]at y2 e10 hsI hX HGO;rw[hq,hs];clear hcell hslc hsls hbx hS0 v0 v1 hq hs hi1 h2;go_enter Tryz.func95,Tryz.ntmps95;go_wp2;go_region_held3 (fun W=>W.cell? ⟨S,1,none⟩=some (.slice (some ⟨A.ga,0,none⟩) A.ns.length (A.ns.length+A.nj.length))∧W.cell? ⟨B,0,none⟩=some (.int .i64 k)∧W.cell? ⟨B,1,none⟩=some (.slice ac ces.length cpc)∧W.cell? ⟨A.ga,s*2+1,none⟩=some (.slice as1 ses.length cps)) (first | assumption | go_keep | exact⟨hX1,hX2,hX3,hX4⟩ | exact⟨bV hSg hX1,bV hBg hX2,bV hBg hX3,aKI hX.out hX4⟩) ((go_at_call 108;refine HJ.out.mono ?_;rintro r w1 ⟨⟨y,rfl,hyk,hyN⟩,hb1,hX1,k0,k1,hk0,hk1,hz0,hz1⟩;obtain⟨hX2,hX3,hX4⟩:=HGO.out w1 hb1));rw[dG hyk];obtain⟨⟨A2,hS2,hA2⟩,hF2⟩:=HSZ.out.store hb1 hcl hyN;have hF2w:Frm (fun k=>k=A.ga) w (set2 w1 A.ga q y):=(Frm.of_below HB0.out).trans hF2;have HWO2:=aA (HWO.out A2 _ _ hS2 hF2w (show b<g.cur.length from hbl));have HF2:=aA hF2w;have HS2:=aA hS2;have t2:=hS2.cells.2.1;have hSg2:S≠A2.ga:=by rw[hA2.ga];exact hSg
 have hbI2:(b:Int) <(A2.ns.length:Int):=by have:=hS2.v.ln;have:A2.ns.length=g.cur.length:=this;omega
 have HFN:Hid (∀x d,(mergeF g b q s k (ces++ses) (delE es i1)).nodes x=some d→(setN (setN g q (k,ces++ses)) b (2,delE es i1)).nodes x=some d):=fun x d hx=>rR x d hx;have HFI:Hid (Fin (setN g q (k,ces++ses)) (mergeF g b q s k (ces++ses) (delE es i1)) b (2,delE es i1)):=⟨HFN.out,(aW.mergeF ..).cur,pH ..,(aW.mergeF ..).next,(aW.mergeF ..).gen,(aW.mergeF ..).com⟩;generalize set2 w1 A.ga q y=w2 at *;clear hX1 hX2 hX3 hX4 hk0 hk1 hz0 hz1 hyN hF2 hF2w hS2 HWO HGO HJ;go_wp2;go_region_held3 (fun W=>W.cell? ⟨S,1,none⟩=some (.slice (some ⟨A2.ga,0,none⟩) A2.ns.length (A2.ns.length+A2.nj.length))) (first | assumption | go_keep | exact bV hSg2 hX1) ((go_at_call 96;refine HWO2.out.mono ?_;rintro r w3 ⟨⟨z,rfl,hzk,hzN⟩,hb3,hX1,k0,k1,hk0,hk1,hz0,hz1⟩));rw[dG hzk];have HR:Hid (Zt w S A (mergeF g b q s k (ces++ses) (delE es i1)) (set2 w3 A2.ga b z)):=Zt.trans HF2.out hA2 (HS2.out.fin hb3 (show b<g.cur.length from hbl) hzN HFI.out);clear hX1 hk0 hk1 hz0 hz1;go_wp2;go_ret;exact⟨rfl,HR.out⟩
