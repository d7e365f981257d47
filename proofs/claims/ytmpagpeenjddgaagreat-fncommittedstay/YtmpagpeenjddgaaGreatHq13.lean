import Derived.Test.YtmpagpeenjddgaaGreatHq11
set_option maxHeartbeats 9999999
set_option maxRecDepth 99999
set_option linter.all false
namespace Go.Proofs.YtmpagpeenjddgaaGreat
open Go.RowKit Fo
variable{K:Int}
theorem aFH{l:List E3}(h:0<l.length):l.drop (l.length-1)=[l.getD (l.length-1) e0]:=by
 have a:l.length-1<l.length:=by omega
 rw[List.drop_eq_getElem_cons a,List.drop_of_length_le (by omega),gD,gE a];rfl
theorem aGO(f:fZ)(b:Nat)(d e:Nd):setN (setN f b d) b e=setN f b e:=by
 have:upd (upd f.n b (some d)) b (some e)=upd f.n b (some e):=funext fun x=>by by_cases h:x=b<;>simp[upd,h]
 unfold setN;simp only;rw[this]
theorem zE(w:World)(ρ:Nat->Nat)(P:Nat)(A:Adr)(f:fZ)(J:List aR)(t H:Nat)(Pt:List Nat)(b h:Nat)(lo hi:OB)(es:List E3)(i c:Nat)(kk:Int)(d:List E3)(q G:Nat)(tu:St w ρ P A f J)(Y:Wk f t H)(hp:aN f t H Pt b (h+1) lo hi)(Z:f.n b=some (2,es))(Fk:0<i)(ap:i<es.length)(hc:c=kd es i)(hd:f.n c=some (kk,d))(cc:cu f c=1)(av:d.length=2)(hφ:A.φ b=some q)(Cz:A.φ c=some G)(hz:Sz K f)(uq:1<=K)(hK:K<=700000)(lm:J.length<=600000)(sf:Tch b J)(FE:Tch c J):
  Calls Tryz.prog 126 #[.pointer (some ⟨P,0,none⟩),.pointer (some ⟨q,0,none⟩),.int .i64 i,.pointer (some ⟨G,0,none⟩)] w (FlP w ρ P A f J b c (fillLast f b i c) K):=by
 have lq:=rE;have KY:=aDP;obtain⟨r,tq⟩:=exH (i-1);have gd:=hz.ai b _ Z;simp only at gd;have CK:r<es.length:=by rw[tq.out];omega
 obtain⟨s,Hs⟩:=exH (kd es r);have vf:s∈kids (2,es):=by rw[Hs.out];exact aQ CK
 have fq:c∈kids (2,es):=by rw[hc];exact aQ ap
 obtain⟨⟨E,a⟩,jg⟩:=Y.ic.af Z vf;obtain⟨es0,q1,e2,e3,e4,e5⟩:=(hp.ok Y.ok).1;rw[Z]at q1;cases q1;have rh:E=kk:=by
  have AD:=(dO (hc▸hd)).1 (e5 i (by omega)).2;have BL:=(dO (Hs.out▸jg)).1 (e5 r CK).2;cases h with
  | zero=>have a1:=AD.1;have a2:=BL.1;simp only at a1 a2;omega
  | succ h=>have a1:=AD.1;have a2:=BL.1;simp only at a1 a2;omega
 subst rh;have ku:2<=a.length:=by have:=(e5 r CK).1;unfold sz at this;rw[<-Hs.out,jg]at this;exact this
 have uh:=hz.ai s _ jg;simp only at uh;have gj:c≠s:=fun e=>by
  rw[hc,Hs.out]at e;have:=dZ (Y.ic.only (hc▸cc) Z (hc▸fq)).2.1 (by omega) CK e.symm;have:=tq.out;omega
 have CC:b≠s:=fun e=>Y.ic.ag Z (e▸vf);have o9:b≠c:=fun e=>Y.ic.ag Z (e▸fq);have eX:b<f.c.length:=hz.lt b _ Z;have KJ:c<f.c.length:=hz.lt c _ hd;have ee:s<f.c.length:=hz.lt s _ jg;have CE:(es.getD r e0).2.2=(s:Int):=by
  have h1:=Y.ic.ar Z CK;rw[Hs.out];unfold kd ch;omega
 obtain⟨q',junk,R,yg,ye,hN⟩:=tu.ah Z;rw[hφ]at R;cases R;obtain⟨g,hg⟩:=hN.bd (by simp only;omega);rw[hg]at hN;obtain⟨qs,D,TR,TP,Od,Fa⟩:=tu.ah jg;obtain⟨ja,jp,jj,hR,hJ⟩:=id tu;have m3:=hR.cells.m3;have c1:w.cell? ⟨q,1,none⟩=some (.slice (some ⟨g,0,none⟩) es.length (es.length+junk.length)):=by rw[hN.box.cell];rfl
 have c2:w.cell? ⟨g,r*3+2,none⟩=some (.int .i64 s):=by
  have:=(bJ (hN.arr g rfl).1 (i:=r) (by simp;omega)).2.2
  rw[gD,List.getElem?_append_left CK,<-gD]at this;rw[CE]at this;exact this
 have g8:∀n,(Instr.lookup 64 (.map (some A.m)) (.int .i64 s) false).run Tryz.prog (w.drewN n)=.ok (.pointer (some ⟨qs,0,none⟩)) (w.drewN n):=fun n=>by
  have:=(hR.hm.of (w':=w.drewN n) rfl).lookup s (by have:=hz.al;omega)
  rw[TR]at this;simpa only[eV,Option.map_some] using this
 have yc:IntKind.i64.wrap ((i:Int)-1)=(r:Int):=by
  have:=tq.out
  rw[IntWalk.i64_in _ ⟨by omega,by omega⟩];omega
 have Fm:((r:Nat):Int) <(es.length:Int):=by omega
 have dh:((i:Nat):Int) <(es.length:Int):=by omega
 have HF:Hid (fillLast f b i c=if 2<a.length then
   match shadow f (.ai b r)with
   | none=>none
   | some (k,s)=>some (moveF k b s c (Fo.look k c).1 ((Fo.look k s).2.take ((Fo.look k s).2.length-1)) ((Fo.look k s).2.drop ((Fo.look k s).2.length-1)++(Fo.look k c).2) ((Fo.look k b).2.set i (ky (Fo.look k s).2 ((Fo.look k s).2.length-1),((Fo.look k b).2.getD i e0).2)))
  else some (mergeF f b c s E (a++d) (delE (es.set i (ky es r,(es.getD i e0).2)) r))):=by
  show fillLast f b i c=_
  unfold fillLast;rw[aE Z];simp only;rw[<-tq.out,<-Hs.out,aE jg,aE hd];rfl
 have HC:=aA (aI hc av);have Dj:=aA CE;clear hc av CE;go_enter Tryz.func126,Tryz.ntmps126;go_wp2;go_quiet (fail);clear g8 c2 m3;by_cases mq:2<a.length
 ·have Ah:decide (2<a.length)=true:=by simpa using mq
  have nh:=aA mq;clear mq c1;go_wp2_with fail;refine(gC qs (E,a) _ D _ (Fa.below (below_drewN _ _))).mono ?_;rintro e V ⟨rfl,cx⟩;rw[cx];clear cx V;have Br:dT f (.ai b r):=⟨eX,es,Z,CK⟩;have Bq:hZ A (.ai b r) ⟨g,r*3+2,none⟩:=⟨g,hg,rfl⟩;go_wp2_with fail;refine(iO _ ρ P A f J (.ai b r) ⟨g,r*3+2,none⟩ (tu.below (below_drewN _ _)) Y.ic hz uq (by omega) (by omega) Br Bq (fun b' i' e=>by cases e;exact sf)).mono ?_;intro e V hT;cases al:shadow f (.ai b r)with
  | none=>
   obtain⟨rfl,ρ4,A4,g4,J4,a1,a2,a3⟩:=hT.no al;have ll:fillLast f b i c=none:=by rw[HF.out,if_pos nh.out,al]
   exact⟨rfl,fun _=>⟨rfl,ρ4,A4,g4,J4,a1,(Mv.aa (below_drewN _ _)).trans a2 (fun _ _ e=>e),a3.up (by omega)⟩,fun g ce=>by rw[ll]at ce;cases ce⟩
  | some gc=>
   obtain⟨f4,T⟩:=gc;obtain⟨ρ4,A4,J4,qs4,rfl,tj,cy,By,je⟩:=hT.yes f4 T al;have bq:Dn 12 (fun x=>x=T\/x=bK f (.ai b r)) w ρ P A f J V ρ4 A4 f4 J4:=⟨cy.st,(Mv.aa (below_drewN _ _)).trans cy.mv (fun _ _ e=>e),cy.js,cy.ad⟩;clear cy hT;obtain⟨w2,p2,p3,⟨l,m1,m2,m3,m4⟩,m5,m6,m7,m8,m9⟩:=Y.aj hp Z CK al;obtain⟨s1,s2,s3⟩:=Y.bh hp Z CK al;rw[<-Hs.out]at m5 s1 s2;obtain⟨x1,x2,x3⟩:=s2 _ fq gj;have H6:f4.n c=some (E,d):=by rw[x1];exact hd
   have yz:f4.n T=some (E,a):=by rw[m5];exact jg
   have LH:T∈kids (2,l):=by rw[<-m4];exact aQ (by rw[m2];exact CK)
   have Ej:b≠T:=fun e=>w2.ic.ag m1 (e▸LH);have nu:kd l i=c:=by rw[HC.out.1];unfold kd;rw[(s3 l m1 i).2 (by have:=tq.out;omega)]
   have yw:c≠T:=fun e=>by
    rw[<-nu,<-m4]at e;have KH:kd l i∈kids (2,l):=aQ (by rw[m2];omega);have:=dZ (w2.ic.only (by rw[nu,x2];exact cc) m1 KH).2.1 (by rw[m2];omega) (by rw[m2];exact CK) e.symm;have:=tq.out;omega
   have CJ:bK f (.ai b r)=s:=by simp only[bK,aE Z];exact Hs.out.symm
   have NB:¬(b=T\/b=bK f (.ai b r)):=fun e=>by rw[CJ]at e;rcases e with e | e;exact Ej e;exact CC e
   have RC:¬(c=T\/c=bK f (.ai b r)):=fun e=>by rw[CJ]at e;rcases e with e | e;exact yw e;exact gj e
   have CY:A4.φ b=some q:=by rw[bq.ad.φ b NB];exact hφ
   have LS:A4.α b=some g:=by rw[bq.ad.α b NB];exact hg
   have CZ:A4.φ c=some G:=by rw[bq.ad.φ c RC];exact Cz
   have sj:Hid (fillLast f b i c=some (moveF f4 b T c E (a.take (a.length-1)) (a.drop (a.length-1)++d) (l.set i (ky a (a.length-1),(l.getD i e0).2)))):=by
    show fillLast f b i c=_
    rw[HF.out,if_pos nh.out,al];simp only[aE H6,aE yz,aE m1]
   clear HF;obtain⟨q4',S,R,Oe,Ig,nn⟩:=bq.st.ah yz;rw[tj]at R;cases R;obtain⟨gs,zc⟩:=nn.bd (by simp only;omega);rw[zc]at nn;obtain⟨l1,D5⟩:=exH (a.length-1);have ei:l1<a.length:=by rw[D5.out];omega
   have Z4:IntKind.i64.wrap ((a.length:Int)-1)=(l1:Int):=by
    have:=D5.out
    rw[IntWalk.i64_in _ ⟨by omega,by omega⟩];omega
   have cs1:V.cell? ⟨qs4,1,none⟩=some (.slice (some ⟨gs,0,none⟩) a.length (a.length+S.length)):=by rw[nn.box.cell];rfl
   have Yo:a.length+S.length<=maxLen:=nn.small;have HM:=aA (aI m2 (aI m5 (aI m6 m7)));clear m2 m5 m6 m7 Ah;go_wp2_with fail;refine(gV qs4 gs E a S l1 V nn uh ei).mono ?_;rintro e w5 ⟨rfl,⟨junks5,pw⟩,eu⟩;have Ln:delE a l1=a.take (a.length-1):=by
    unfold delE;rw[D5.out,show a.length-1+1=a.length by omega];simp
   have GG:Frm (fun x=>x=qs4\/A4.α T=some x) V w5:=eu.wide fun x _ e=>by rcases e with e | e;exact .inl e;right;rw[zc,e]
   rw[Ln]at pw;obtain⟨de,oa⟩:=bq.st.aw yz tj GG (by rw[zc];exact pw);obtain⟨F,N,c0,MA⟩:∃F N c0,Hid (a.getD l1 e0=(F,N,c0)):=⟨_,_,_,rfl⟩;rw[show aBF (a.getD l1 e0)=.agg #[.string F,.string N,.int .i64 c0] by rw[MA.out];rfl];clear pw eu GG cs1;go_wp2;obtain⟨M,ME⟩:=exH (w5.heap.size);obtain⟨Wm,QN⟩:=exH (w5.alloc (.cells #[.string F,.string N,.int .i64 c0] 130));rw[<-QN.out,<-ME.out];have PG:IsC Wm M #[.string F,.string N,.int .i64 c0] 130:=by rw[QN.out,ME.out];exact IsC.new _ _ _
   have MW:Bl w5 Wm:=by rw[QN.out];exact(bQ w5.heap.size w5).alloc (nR _) _
   have TK:ρ4 M=0:=Nat.eq_zero_of_not_pos fun q=>by
    obtain⟨_,_,_,Ck,_⟩:=id de;have:=Ck.own M (by omega);rw[ME.out]at this;omega
   have Li:=de.below MW;have Gc:(setN f4 T (E,a.take (a.length-1))).n c=some (E,d):=(bD _ _ yw).trans H6;obtain⟨qc',m,R,Dg,yf,iq⟩:=Li.ah Gc;rw[CZ]at R;cases R;obtain⟨O,yn⟩:∃O,O=A4.α c:=⟨_,rfl⟩;rw[<-yn]at iq;have FL:=aA yn;clear yn;have Wy:M≠G:=fun e=>by rw[e,Dg]at TK;unfold cJ at TK;omega
   have Wx:∀x,O=some x->M≠x:=fun x e e'=>by
    have:=yf x (by rw[<-FL.out];exact e)
    rw[<-e',TK]at this;unfold cG at this;omega
   have Us:∀W:World,IsC W M #[.string F,.string N,.int .i64 c0] 130->W.cell? ⟨M,0,none⟩=some (.string F)/\W.cell? ⟨M,1,none⟩=some (.string N)/\W.cell? ⟨M,2,none⟩=some (.int .i64 c0):=fun W Y=>⟨Y.c rfl,Y.c rfl,Y.c rfl⟩;have Di:=aA Us;clear Us;have Q:Wm.drew.cell? ⟨G,1,none⟩=some (.slice (adr O) d.length (d.length+m.length))/\Wm.drew.cell? ⟨M,0,none⟩=some (.string F)/\Wm.drew.cell? ⟨M,1,none⟩=some (.string N)/\Wm.drew.cell? ⟨M,2,none⟩=some (.int .i64 c0):=⟨by show Wm.cell? _=_;rw[iq.box.cell];rfl,Di.out Wm PG⟩;refine bA (fun W=>W.cell? ⟨G,1,none⟩=some (.slice (adr O) d.length (d.length+m.length))/\W.cell? ⟨M,0,none⟩=some (.string F)/\W.cell? ⟨M,1,none⟩=some (.string N)/\W.cell? ⟨M,2,none⟩=some (.int .i64 c0)) 10 (by kernel_rfl) ?_;refine tJ 0 42 (.pointer (some ⟨G,0,none⟩)) rfl Q ?_;refine tJ 1 43 (.pointer (some ⟨G,0,none⟩)) rfl Q ?_;refine tJ 2 44 (.pointer (some ⟨G,0,none⟩)) rfl Q ?_;refine tJ 3 45 (.pointer (some ⟨G,1,none⟩)) rfl Q ?_;refine tJ 4 46 (.slice (adr O) d.length (d.length+m.length)) rfl Q ?_;refine tJ 5 47 (.agg #[.string F,.string N,.int .i64 c0]) rfl Q ?_;simp only[Act.put,sB,sZ,sS];refine oE 6 rfl fun K2 z=>?_;go_simp;obtain⟨G6,AS⟩:=exH (Wm.heap.size);obtain⟨W6,Bd⟩:=exH ((Wm.alloc (.cells #[.string F,.string N,.int .i64 c0] 130)).drew);rw[<-Bd.out,<-AS.out];have AC:IsC W6 G6 (cC [(F,N,c0)]) 130:=by rw[Bd.out,AS.out];exact(IsC.new Wm _ _).drew
   have r9:Bl Wm W6:=by rw[Bd.out];exact((bQ Wm.heap.size Wm).alloc (nR _) _).drew
   have pu:=iq.below r9;have JT:IsC W6 M #[.string F,.string N,.int .i64 c0] 130:=PG.of (r9.block M PG.lt);have Mh:∀x,O=some x->x≠G6:=fun x e=>by rw[AS.out];exact Nat.ne_of_lt (iq.arr x e).1.lt
   have Ax:W6.cell? ⟨G,1,none⟩=some (.slice (adr O) d.length (d.length+m.length))/\W6.cell? ⟨M,0,none⟩=some (.string F)/\W6.cell? ⟨M,1,none⟩=some (.string N)/\W6.cell? ⟨M,2,none⟩=some (.int .i64 c0):=⟨by rw[pu.box.cell];rfl,Di.out W6 JT⟩;refine z _ _ (fun _=>Ax) ?_;clear z K2 Q;have lp:=Li.below r9;refine oE 7 rfl fun K2 z=>?_;go_simp;refine(kD O d m [(F,N,c0)] (some ⟨G6,0,none⟩) 1 0 W6 (fun x e=>(pu.arr x e).1) pu.nil (.inr ⟨G6,0,1,[(F,N,c0)],rfl,AC,by simp,by simp⟩) (fun gv o n c' e e'=>by cases e;exact Mh _ e' rfl) (Nat.zero_le _) (by simp) (by have:=HC.out.2;simp;omega) pu.small).mono ?_;rintro e w7 ⟨u,rfl,el⟩;obtain⟨ua,un,uc,rfl⟩:∃ua un uc,u=.slice ua un uc:=by obtain⟨⟨I,j',e,_⟩,_⟩:=el;exact⟨_,_,_,e⟩
   rw[show d.take 0++[(F,N,c0)]++d.drop 0=[(F,N,c0)]++d by simp]at el;have JU:IsC w7 M #[.string F,.string N,.int .i64 c0] 130:=JT.ae el.ae (fun e=>Wx M e rfl);have oo:w7.cell? ⟨G,1,none⟩=some (.slice (adr O) d.length (d.length+m.length))/\w7.cell? ⟨M,0,none⟩=some (.string F)/\w7.cell? ⟨M,1,none⟩=some (.string N)/\w7.cell? ⟨M,2,none⟩=some (.int .i64 c0):=⟨(dE (el.ae.block G pu.box.lt (fun e=>(pu.arr G e).2 rfl)) 1).trans Ax.1,Di.out w7 JU⟩;obtain⟨I,-,oe,BK,-,xm⟩:=lp.ins (w1:=w7) (u:=.slice ua un uc) Gc CZ (by rw[<-FL.out];exact el);have Mr:IsC (w7.setCell ⟨G,1,none⟩ (.slice ua un uc)) M #[.string F,.string N,.int .i64 c0] 130:=JU.set_ne _ Wy;refine z _ _ (fun _=>oo) ?_;clear z K2 Ax;refine oE 8 rfl fun K2 z=>?_;go_simp;refine z _ _ (fun _=>oo) ?_;clear z K2;refine oE 9 rfl fun K2 z=>?_;go_simp;refine z _ _ (fun _=>oo) ?_;clear z K2;obtain⟨CS,-⟩:=oo;refine oE 10 rfl fun K2 z=>?_;go_simp;refine z _ _ (fun q=>absurd rfl q) ?_;clear z K2 CS xm;refine aS (by kernel_rfl) ?_ _;have vi:Mv (fun _=>False) w ρ (w7.setCell ⟨G,1,none⟩ (.slice ua un uc)) (jL ρ4 I c):=(((bq.mv.trans oa (fun _ _ e=>e)).trans (Mv.aa MW) (fun _ _ e=>e)).trans (Mv.aa r9) (fun _ _ e=>e)).trans BK (fun _ _ e=>e);generalize w7.setCell ⟨G,1,none⟩ (.slice ua un uc)=U at *;obtain⟨f8,Hl⟩:=exH (setN (setN f4 T (E,a.take (a.length-1))) c (E,[(F,N,c0)]++d));rw[<-Hl.out]at oe;have o8:f8.n b=some (2,l):=by rw[Hl.out,bD _ _ o9,bD _ _ Ej];exact m1
   obtain⟨q',C,R,-,-,io⟩:=oe.ah o8;rw[show(dQ A4 c I).φ b=some q from CY]at R;cases R;have my:(dQ A4 c I).α b=some g:=(aC _ _ o9).trans LS;rw[my]at io;have AK:i<l.length:=by rw[HM.out.1];exact ap
   have X8:((i:Nat):Int) <(l.length:Int):=by omega
   obtain⟨vk,tk⟩:∃v,U.cell? ⟨g,i*3,none⟩=some v:=⟨_,(bJ (io.arr g rfl).1 (i:=i) (by simp;omega)).1⟩;have tf:=(io.arr g rfl).1.frozen (i*3);have pd:=io.cp (i:=i) (j:=0) (v:=.string F) (e':=(F,(l.getD i e0).2)) AK (by omega) (by simp[aJ]);rw[Nat.add_zero]at pd;obtain⟨q7,Ci⟩:=oe.aw (w':=U.setCell ⟨g,i*3,none⟩ (.string F)) o8 CY (Frm.set U (p:=⟨g,i*3,none⟩) (.inr my) _) (by rw[my];exact pd);have bp:setN f8 b (2,l.set i (F,(l.getD i e0).2))=moveF f4 b T c E (a.take (a.length-1)) (a.drop (a.length-1)++d) (l.set i (ky a (a.length-1),(l.getD i e0).2)):=by
    rw[Hl.out,aFH (by omega)];unfold ky;rw[<-D5.out,MA.out];rfl
   rw[bp]at q7;have Dm:JS 12 f J (moveF f4 b T c E (a.take (a.length-1)) (a.drop (a.length-1)++d) (l.set i (ky a (a.length-1),(l.getD i e0).2))) J4:=by
    refine(((bq.js.trans (JS.setN _ By)).trans (JS.setN _ (bq.js.b5 c FE))).trans (JS.setN _ (bq.js.b5 b sf))).up (by omega)
   have KI:c<f4.c.length:=je.lt c _ H6;have Da:T<f4.c.length:=je.lt T _ yz;have Jz:b<f4.c.length:=je.lt b _ m1;have BW:Sz (K+10) (moveF f4 b T c E (a.take (a.length-1)) (a.drop (a.length-1)++d) (l.set i (ky a (a.length-1),(l.getD i e0).2))):=
    ((je.setN Da (by simp;omega)).setN KI (by have:=HC.out.2;simp;omega)).setN Jz (by have:=HM.out.1;simp;omega)
   have HR:=aA (show Dn 12 (fun _=>True) w ρ P A f J (U.setCell ⟨g,i*3,none⟩ (.string F)) (jL ρ4 I c) (dQ A4 c I) (moveF f4 b T c E (a.take (a.length-1)) (a.drop (a.length-1)++d) (l.set i (ky a (a.length-1),(l.getD i e0).2))) J4/\Sz (K+10) (moveF f4 b T c E (a.take (a.length-1)) (a.drop (a.length-1)++d) (l.set i (ky a (a.length-1),(l.getD i e0).2)))from⟨⟨q7,vi.trans Ci (fun _ _ e=>e),Dm,(bq.ad.trans (AdS.arr A4 c I)).up fun _ _=>trivial⟩,BW⟩);have L:U.drew.cell? ⟨q,1,none⟩=some (.slice (some ⟨g,0,none⟩) l.length (l.length+C.length))/\U.drew.cell? ⟨M,0,none⟩=some (.string F):=⟨by show U.cell? _=_;rw[io.box.cell];rfl,(Di.out U Mr).1⟩;clear q7 Ci Dm BW bp pd io oe vi BK lp de oa el pu iq AC bq Mr JU JT PG Li;go_wp2;refine bA (fun W=>W.cell? ⟨q,1,none⟩=some (.slice (some ⟨g,0,none⟩) l.length (l.length+C.length))/\W.cell? ⟨M,0,none⟩=some (.string F)) 9 (by kernel_rfl) ?_;refine tJ 0 52 (.pointer (some ⟨q,0,none⟩)) rfl L ?_;refine tJ 1 53 (.pointer (some ⟨q,0,none⟩)) rfl L ?_;refine tJ 2 54 (.pointer (some ⟨q,1,none⟩)) rfl L ?_;refine tJ 3 55 (.slice (some ⟨g,0,none⟩) l.length (l.length+C.length)) rfl L ?_;refine tJ 4 56 (.int .i64 i) rfl L ?_;refine tJ 5 57 (.pointer (some ⟨M,0,none⟩)) rfl L ?_;refine tJ 6 58 (.string F) rfl L ?_;simp only[Act.put,sB,sZ,sS];refine oE 7 rfl fun K2 z=>?_;go_simp;refine z _ _ (fun _=>L) ?_;clear z K2;refine oE 8 rfl fun K2 z=>?_;go_simp;refine z _ _ (fun _=>L) ?_;clear z K2;refine oE 9 rfl fun K2 z=>?_;go_simp;refine z _ _ (fun q=>absurd rfl q) ?_;clear z K2;refine aS (by kernel_rfl) ?_ _;go_wp2;first | go_end0 | refine bodyPost_ret (results_none rfl _ _ _) rfl ?_
   obtain⟨Bk,AQ⟩:=HR.out;refine⟨fun q=>(by rw[sj.out]at q;cases q),fun g' qh=>?_⟩;rw[sj.out]at qh;cases qh;exact⟨rfl,_,_,J4,Bk.below (by first | exact bQ _ _ | exact(bQ _ _).drew),CY.trans hφ.symm,CZ.trans Cz.symm,AQ⟩
 ·have Ah:decide (2<a.length)=false:=by simpa using mq
  have nh:=aA mq;clear mq c1;go_wp2_with fail;refine(gC qs (E,a) _ D _ (Fa.below (below_drewN _ _))).mono ?_;rintro e V ⟨rfl,cx⟩;have d5:Bl w V:=by rw[cx];exact below_drewN _ _
  clear cx;have ax:=tu.below d5;have nn:=Fa.below d5;obtain⟨az,has⟩:∃az,az=A.α s:=⟨_,rfl⟩;rw[<-has]at nn;obtain⟨qc',m,R,Dg,yf,vj⟩:=ax.ah hd;rw[Cz]at R;cases R;obtain⟨O,yn⟩:∃O,O=A.α c:=⟨_,rfl⟩;rw[<-yn]at vj;have FL:=aA yn;have Vo:=aA has;clear yn has Ah;have Q:V.drew.cell? ⟨G,1,none⟩=some (.slice (adr O) d.length (d.length+m.length))/\V.drew.cell? ⟨qs,1,none⟩=some (.slice (adr az) a.length (a.length+D.length)):=⟨by show V.cell? _=_;rw[vj.box.cell];rfl,by show V.cell? _=_;rw[nn.box.cell];rfl⟩;go_wp2;refine bA (fun W=>W.cell? ⟨G,1,none⟩=some (.slice (adr O) d.length (d.length+m.length))/\W.cell? ⟨qs,1,none⟩=some (.slice (adr az) a.length (a.length+D.length))) 12 (by kernel_rfl) ?_;refine tJ 0 61 (.pointer (some ⟨G,0,none⟩)) rfl Q ?_;refine tJ 1 62 (.pointer (some ⟨G,0,none⟩)) rfl Q ?_;refine tJ 2 63 (.pointer (some ⟨G,0,none⟩)) rfl Q ?_;refine tJ 3 64 (.pointer (some ⟨G,1,none⟩)) rfl Q ?_;refine tJ 4 65 (.slice (adr O) d.length (d.length+m.length)) rfl Q ?_;refine tJ 5 66 (.pointer (some ⟨qs,0,none⟩)) rfl Q ?_;refine tJ 6 67 (.pointer (some ⟨qs,0,none⟩)) rfl Q ?_;refine tJ 7 68 (.pointer (some ⟨qs,1,none⟩)) rfl Q ?_;refine tJ 8 69 (.slice (adr az) a.length (a.length+D.length)) rfl Q ?_;simp only[Act.put,sB,sZ,sS];have vh:Bl V V.drew:=(bQ V.heap.size V).drew;have iq:=vj.below vh;have pw:=nn.below vh;have de:=ax.below vh;have Js:∀x,O=some x->x≠qs:=fun x e e'=>by
   have h1:=(iq.arr x e).1;rw[e']at h1;exact IsC.ne h1 pw.box (by decide) rfl
  have vv:aOC (.slice (adr az) a.length (a.length+D.length)) O:=fun gv o n c' e e'=>by
   have h2:=yf gv (by rw[<-FL.out];exact e');cases az with
   | none=>simp[adr]at e
   | some x=>
    simp only[adr,Option.map_some,Value.slice.injEq,sJ,Addr.mk.injEq]at e;have h3:=Od x (by rw[<-Vo.out]);rw[e.1.1,h2]at h3;exact(rne gj).2.2.2 h3
  refine oE 9 rfl fun K2 z=>?_;go_simp;refine(kD O d m a (adr az) (a.length+D.length) 0 V.drew (fun x e=>(iq.arr x e).1) iq.nil pw.dm vv (Nat.zero_le _) (by omega) (by have:=HC.out.2;have:=nh.out;omega) iq.small).mono ?_;rintro e W7 ⟨u,rfl,el⟩;obtain⟨ua,un,uc,rfl⟩:∃ua un uc,u=.slice ua un uc:=by obtain⟨⟨I,j',e,_⟩,_⟩:=el;exact⟨_,_,_,e⟩
  rw[show d.take 0++a++d.drop 0=a++d by simp]at el;have oo:W7.cell? ⟨G,1,none⟩=some (.slice (adr O) d.length (d.length+m.length))/\W7.cell? ⟨qs,1,none⟩=some (.slice (adr az) a.length (a.length+D.length)):=⟨(dE (el.ae.block G iq.box.lt (fun e=>(iq.arr G e).2 rfl)) 1).trans Q.1,(dE (el.ae.block qs pw.box.lt (fun e=>Js qs e rfl)) 1).trans Q.2⟩;obtain⟨I,-,oe,BK,-,xm⟩:=de.ins (w1:=W7) (u:=.slice ua un uc) hd Cz (by rw[<-FL.out];exact el);refine z _ _ (fun _=>oo) ?_;clear z K2 Q;refine oE 10 rfl fun K2 z=>?_;go_simp;refine z _ _ (fun _=>oo) ?_;clear z K2;refine oE 11 rfl fun K2 z=>?_;go_simp;refine z _ _ (fun _=>oo) ?_;clear z K2;obtain⟨CS,-⟩:=oo;refine oE 12 rfl fun K2 z=>?_;go_simp;refine z _ _ (fun q=>absurd rfl q) ?_;clear z K2 CS xm;refine aS (by kernel_rfl) ?_ _;have vi:Mv (fun _=>False) w ρ (W7.setCell ⟨G,1,none⟩ (.slice ua un uc)) (jL ρ I c):=((Mv.aa d5).trans (Mv.aa vh) (fun _ _ e=>e)).trans BK (fun _ _ e=>e);generalize W7.setCell ⟨G,1,none⟩ (.slice ua un uc)=U at *;have o8:(setN f c (E,a++d)).n b=some (2,es):=(bD _ _ o9).trans Z;obtain⟨q',C,R,-,-,io⟩:=oe.ah o8;rw[show(dQ A c I).φ b=some q from hφ]at R;cases R;have my:(dQ A c I).α b=some g:=(aC _ _ o9).trans hg;rw[my]at io;obtain⟨y,HY⟩:=exH (ky es r);have ty:U.cell? ⟨g,r*3,none⟩=some (.string y):=by
   have:=(bJ (io.arr g rfl).1 (i:=r) (by simp;omega)).1
   rw[gD,List.getElem?_append_left CK,<-gD]at this;rw[HY.out];exact this
  obtain⟨vk,tk⟩:∃v,U.cell? ⟨g,i*3,none⟩=some v:=⟨_,(bJ (io.arr g rfl).1 (i:=i) (by simp;omega)).1⟩;have tf:=(io.arr g rfl).1.frozen (i*3);have pd:=io.cp (i:=i) (j:=0) (v:=.string y) (e':=(y,(es.getD i e0).2)) ap (by omega) (by simp[aJ]);rw[Nat.add_zero]at pd;obtain⟨q7,Ci⟩:=oe.aw (w':=U.setCell ⟨g,i*3,none⟩ (.string y)) o8 hφ (Frm.set U (p:=⟨g,i*3,none⟩) (.inr my) _) (by rw[my];exact pd);have L:U.drew.cell? ⟨q,1,none⟩=some (.slice (some ⟨g,0,none⟩) es.length (es.length+C.length))/\U.drew.cell? ⟨g,r*3,none⟩=some (.string y):=⟨by show U.cell? _=_;rw[io.box.cell];rfl,ty⟩;have Mp:=vi.trans Ci (fun _ _ e=>e);clear pd io el iq pw ty vi Ci oe;go_wp2;refine bA (fun W=>W.cell? ⟨q,1,none⟩=some (.slice (some ⟨g,0,none⟩) es.length (es.length+C.length))/\W.cell? ⟨g,r*3,none⟩=some (.string y)) 11 (by kernel_rfl) ?_;refine tJ 0 73 (.pointer (some ⟨q,0,none⟩)) rfl L ?_;refine tJ 1 74 (.pointer (some ⟨q,0,none⟩)) rfl L ?_;refine tJ 2 75 (.pointer (some ⟨q,1,none⟩)) rfl L ?_;refine tJ 3 76 (.slice (some ⟨g,0,none⟩) es.length (es.length+C.length)) rfl L ?_;refine tJ 4 77 (.int .i64 i) rfl L ?_;refine tJ 5 78 (.pointer (some ⟨g,r*3,none⟩)) rfl L ?_;refine tJ 6 79 (.pointer (some ⟨g,r*3,none⟩)) rfl L ?_;refine tJ 7 80 (.pointer (some ⟨g,r*3,none⟩)) rfl L ?_;refine tJ 8 81 (.string y) rfl L ?_;simp only[Act.put,sB,sZ,sS];refine oE 9 rfl fun K2 z=>?_;go_simp;refine z _ _ (fun _=>L) ?_;clear z K2;refine oE 10 rfl fun K2 z=>?_;go_simp;refine z _ _ (fun _=>L) ?_;clear z K2;refine oE 11 rfl fun K2 z=>?_;go_simp;refine z _ _ (fun q=>absurd rfl q) ?_;clear z K2;refine aS (by kernel_rfl) ?_ _;have GU:=q7.below (bQ _ _).drew;have Ht:=Mp.trans (Mv.aa (X:=fun _=>False) (bQ _ _).drew) (fun _ _ e=>e);clear q7 Mp L tk tf;generalize (U.setCell ⟨g,i*3,none⟩ (.string y)).drew=W9 at *;obtain⟨B,O2⟩:=exH (es.set i (y,(es.getD i e0).2));rw[<-O2.out]at GU;have PR:B.length=es.length:=by rw[O2.out];simp
  have fl:(setN (setN f c (E,a++d)) b (2,B)).n b=some (2,B):=tE _ _ _;obtain⟨q',junkb9,R,-,-,DE⟩:=GU.ah fl;rw[show(dQ A c I).φ b=some q from hφ]at R;cases R;rw[my]at DE;have Oo:=aA PR;have U3:B.getD r e0=es.getD r e0:=by
   rw[O2.out,bB _ _ _ _ _ ap,if_neg (by have:=tq.out;omega)]
  have V1:=aA U3;clear PR U3;go_wp2_with fail;refine(gV q g 2 B junkb9 r W9 DE (by have:=Oo.out;omega) (by have:=Oo.out;omega)).mono ?_;rintro e w9 ⟨rfl,⟨junkb10,Hu⟩,xr⟩;obtain⟨k1,v1,GC⟩:∃k1 v1,Hid (B.getD r e0=(k1,v1,(s:Int))):=⟨(es.getD r e0).1,(es.getD r e0).2.1,by show _=_;rw[V1.out,<-Dj.out]⟩;rw[show aBF (B.getD r e0)=.agg #[.string k1,.string v1,.int .i64 s] by rw[GC.out];rfl];obtain⟨DH,EO⟩:=GU.aw fl hφ (xr.wide fun x _ e=>by rcases e with e | e;exact .inl e;right;rw[my,e]) (by rw[my];exact Hu);rw[aGO]at DH;have KQ:(setN (setN f c (E,a++d)) b (2,delE B r)).n s=some (E,a):=((bD _ _ (Ne.symm CC)).trans (bD _ _ (Ne.symm gj))).trans jg;have BW:Sz K (setN (setN f c (E,a++d)) b (2,delE B r)):=(hz.setN KJ (by have:=HC.out.2;have:=nh.out;simp;omega)).setN eX (by have:=bM B r (by have:=Oo.out;omega);have:=Oo.out;simp only;omega);have KM:cu (setN (setN f c (E,a++d)) b (2,delE B r)) s=cu f s:=rfl;have Dm:JS 0 f J (setN (setN f c (E,a++d)) b (2,delE B r)) J:=(JS.setN _ FE).trans (JS.setN _ sf);clear DE Hu xr GU;go_wp2_with fail;refine(oO w9 (jL ρ I c) P (dQ A c I) (setN (setN f c (E,a++d)) b (2,delE B r)) J s (E,a) DH BW (by omega) (by omega) KQ (by rw[KM];have:=Y.ic.a1 jg;omega) (fun x hx=>Y.ic.bf jg hx) (aED Y.ic jg)).mono ?_;rintro e w10 ⟨rfl,ρ10,J10,Mz,Mo,EM,FK⟩;have Bf:AdS (fun _=>True) A (if cu (setN (setN f c (E,a++d)) b (2,delE B r)) s=1 then gW (dQ A c I) s else dQ A c I)/\(if cu (setN (setN f c (E,a++d)) b (2,delE B r)) s=1 then gW (dQ A c I) s else dQ A c I).φ b=A.φ b/\(if cu (setN (setN f c (E,a++d)) b (2,delE B r)) s=1 then gW (dQ A c I) s else dQ A c I).φ c=A.φ c:=by
   split
   ·exact⟨((AdS.arr A c I).trans (AdS.del _ s)).up fun _ _=>trivial,aC _ _ CC,aC _ _ gj⟩
   ·exact⟨(AdS.arr A c I).top,rfl,rfl⟩
  generalize (if cu (setN (setN f c (E,a++d)) b (2,delE B r)) s=1 then gW (dQ A c I) s else dQ A c I)=A10 at *;have sj:Hid (fillLast f b i c=some (letGo (setN (setN f c (E,a++d)) b (2,delE B r)) s)):=by
   show fillLast f b i c=_
   rw[HF.out,if_neg nh.out,O2.out,HY.out];rfl
  clear HF;have HR:=aA (show Dn 12 (fun _=>True) w ρ P A f J w10 ρ10 A10 (letGo (setN (setN f c (E,a++d)) b (2,delE B r)) s) J10/\Sz (K+10) (letGo (setN (setN f c (E,a++d)) b (2,delE B r)) s)from⟨⟨Mz,(Ht.trans EO (fun _ _ e=>e)).trans Mo (fun _ _ e=>e),(Dm.trans EM).up (by omega),Bf.1⟩,FK⟩);have HA:=aA Bf.2;clear Bf DH EO EM FK Mz Mo Ht;go_wp2;first | go_end0 | refine bodyPost_ret (results_none rfl _ _ _) rfl ?_
  obtain⟨Bk,AQ⟩:=HR.out;refine⟨fun q=>(by rw[sj.out]at q;cases q),fun g' qh=>?_⟩;rw[sj.out]at qh;cases qh;exact⟨rfl,_,_,J10,Bk,HA.out.1,HA.out.2,AQ⟩
theorem aIL(w:World)(ρ:Nat->Nat)(P:Nat)(A:Adr)(f:fZ)(J:List aR)(b:Nat)(h:St w ρ P A f J)(r:Sz K f)(H:J.length<=900000)(c:b<f.c.length):
  Calls Tryz.prog 105 #[.pointer (some ⟨P,0,none⟩),.int .i64 b] w fun e w'=>e=.returned (.tuple #[])/\∃ρ',St w' ρ' P (gW A b) (freeB f b) (J++[(b,cu f b,f.n b)])/\Mv (fun _=>False) w ρ w' ρ'/\Frm (fun k=>ρ k=1\/ρ k=6\/ρ k=3\/ρ k=4) w w':=by
 obtain⟨S,U,T,q,R⟩:=id h;go_enter Tryz.func105,Tryz.ntmps105;go_wp2_with fail;refine(mE _ ρ P A f J b h r c H).mono ?_;rintro e g ⟨rfl,ρ2,m,I,-,t⟩;obtain⟨B,F,D,d,pt⟩:=id m;obtain⟨W,X,Y,Z⟩:=d.cells;have N:(b:Int) <(f.c.length:Int):=by omega
 have V:=d.count c;have Q:g.frozen? ⟨A.c,b,none⟩=false:=d.hc.frozen b;obtain⟨a,i⟩:=m.setC (b:=b) c 0;obtain⟨C,G,E,s,uo⟩:=id a;obtain⟨M,O,L,o⟩:=s.hm.del b (by have:=r.al;omega) 0;have o3:(g.setCell ⟨A.c,b,none⟩ (.int .i64 0)).cell? ⟨P,3,none⟩=some (.map (some A.m)):=s.cells.m3;obtain⟨n,j⟩:=a.del (b:=b) L o;have l:Frm (fun k=>ρ k=1\/ρ k=6\/ρ k=3\/ρ k=4) w M:=by
  refine((t.wide fun x _ e=>by rcases e with e | e;exact .inl e;exact .inr (.inl e)).trans (Frm.set g (p:=⟨A.c,b,none⟩) (.inr (.inr (.inr q.rc))) _)).next o (fun x _ e=>.inr (.inr (.inl (by rw[e];exact q.rm))))
 have u:=aA n;have z:=aA j;have y:=aA i;have v:=aA l;clear n j i a l;go_wp2;go_end0;exact⟨rfl,ρ2,u.out,(I.trans y.out (fun _ _ e=>e)).trans z.out (fun _ _ e=>e),v.out⟩
structure SdP(w:World)(ρ:Nat->Nat)(P:Nat)(A:Adr)(f:fZ)(J:List aR)(b:Nat)(key:ByteArray)(K:Int)(e:Ending)(w':World):Prop where
 no:stepDel f b key=none->Pk 24 w ρ P f J e w'
 yes:∀g c,stepDel f b key=some (g,c)->∃ρ' A' J' q,e=.returned (.pointer (some ⟨q,0,none⟩))/\A'.φ c=some q/\A'.φ b=A.φ b/\Dn 24 (fun _=>True) w ρ P A f J w' ρ' A' g J'/\Tch c J'/\Sz (K+20) g
theorem aCT(w:World)(ρ:Nat->Nat)(P:Nat)(A:Adr)(f:fZ)(J:List aR)(t H:Nat)(Pt:List Nat)(b h:Nat)(lo hi:OB)(key:ByteArray)(q:Nat)(tu:St w ρ P A f J)(hW:Wk f t H)(hp:aN f t H Pt b (h+1) lo hi)(h2:2<=sz f.n b)(hφ:A.φ b=some q)(hz:Sz K f)(uq:1<=K)(hK:K<=600000)(lm:J.length<=500000)(sf:Tch b J):
  Calls Tryz.prog 104 #[.pointer (some ⟨P,0,none⟩),.pointer (some ⟨q,0,none⟩),.string key] w (SdP w ρ P A f J b key K):=by
 obtain⟨es,z,ue,aw⟩:=hp.inner hW;have O3:2<=es.length:=by unfold sz at h2;rw[z]at h2;exact h2
 have gd:=hz.ai b _ z;simp only at gd;have eX:b<f.c.length:=hz.lt b _ z;obtain⟨q',r,G,yg,ye,Q⟩:=tu.ah z;rw[hφ]at G;cases G;obtain⟨g,hg⟩:=Q.bd (by simp only;omega);rw[hg]at Q;have fj:bI es key<es.length:=eJ key aw;have Nj:((bI es key:Nat):Int) <(es.length:Int):=by omega
 have HD:Hid (stepDel f b key=match shadow f (.ai b (bI es key))with
  | none=>none
  | some (g,c)=>
   if 2 <(Fo.look g c).2.length then some (g,c)else
   if bI es key+1 <(Fo.look g b).2.length then(fillNext g b (bI es key) c).map fun k=>(k,c)
   else(fillLast g b (bI es key) c).map fun k=>(k,c)):=by
  show stepDel f b key=_
  unfold stepDel;rw[aE z];rfl
 have mo:es.length+r.length<=maxLen:=Q.small;go_enter Tryz.func104,Tryz.ntmps104;go_wp2_with fail;refine(iE q (2,es) (some g) r key _ Q ue.a6 gd).mono ?_;rintro e w2 ⟨rfl,di⟩;have be:=tu.below di;have ts:=Q.below di;have mf:Mv (fun _=>False) w ρ w2 ρ:=Mv.aa di;have c2:w2.cell? ⟨q,1,none⟩=some (.slice (some ⟨g,0,none⟩) es.length (es.length+r.length)):=by rw[ts.box.cell];rfl
 clear Q di;simp only at *;generalize hI:bI es key=i at *;have Br:dT f (.ai b i):=⟨eX,es,z,fj⟩;have Bq:hZ A (.ai b i) ⟨g,i*3+2,none⟩:=⟨g,hg,rfl⟩;go_wp2_with fail;refine(iO w2 ρ P A f J (.ai b i) ⟨g,i*3+2,none⟩ be hW.ic hz uq (by omega) (by omega) Br Bq (fun b' i' e=>by cases e;exact sf)).mono ?_;intro e w3 hT;cases Y:shadow f (.ai b i)with
 | none=>
  obtain⟨rfl,ρ3,D,g3,E,V,W,X⟩:=hT.no Y;have ll:stepDel f b key=none:=by rw[HD.out,Y]
  exact⟨rfl,fun _=>⟨rfl,ρ3,D,g3,E,V,mf.trans W (fun _ _ e=>e),X.up (by omega)⟩,fun g c l=>by rw[ll]at l;cases l⟩
 | some gc=>
  obtain⟨g1,c⟩:=gc;obtain⟨ρ3,D,E,I,rfl,M,v,T,ww⟩:=hT.yes g1 c Y;obtain⟨u,p2,p3,⟨d,m1,m2,m3,m4⟩,m5,m6,m7,m8,m9⟩:=hW.aj hp z fj Y;obtain⟨⟨kc,a⟩,hd⟩:=u.ic.live (x:=c) (by rw[m6];omega);have yx:2<=a.length:=by
   have:=(p3.ok u.ok).2 (by simp);unfold sz at this;rw[hd]at this;exact this
  have o9:b≠c:=fun e=>by
   have hk:c∈kids (2,d):=by rw[<-m4];exact aQ (by rw[m2];exact fj)
   rw[<-e]at hk;exact u.ic.ag m1 hk
  have yq:¬(b=c\/b=bK f (.ai b i)):=fun e=>by
   rcases e with e | e
   ·exact o9 e
   ·have hk:bK f (.ai b i)∈kids (2,es):=by simp only[bK,aE z];exact gR fj
    rw[<-e]at hk;exact hW.ic.ag z hk
  have O:D.φ b=some q:=by rw[v.ad.φ b yq];exact hφ
  obtain⟨q3',m,G,Vh,Oc,so⟩:=v.st.ah hd;rw[M]at G;cases G;obtain⟨qb',s,G,-,-,Qt⟩:=v.st.ah m1;rw[O]at G;cases G;obtain⟨ab,q8⟩:∃ab,ab=D.α b:=⟨_,rfl⟩;rw[<-q8]at Qt;clear q8;have N:Hid (stepDel f b key=if 2<a.length then some (g1,c)else if i+1<d.length then(fillNext g1 b i c).map fun k=>(k,c)else(fillLast g1 b i c).map fun k=>(k,c)):=by
   have:=HD.out
   rw[Y]at this;simp only[aE hd,aE m1]at this;exact this
  clear HD;have j:Dn 12 (fun _=>True) w ρ P A f J w3 ρ3 D g1 E:=⟨v.st,mf.trans v.mv (fun _ _ e=>e),v.js.up (by omega),v.ad.top⟩;have Fb:Tch b E:=v.js.b5 b sf;have uo:E.length<=500012:=by have:=v.js.len;omega
  clear hT v;by_cases R:2<a.length
  ·have Ah:decide (2<a.length)=true:=by simpa using R
   have B:=aA R;clear R;go_wp2_with fail;refine(gC I (kc,a) _ m _ so).mono ?_;rintro e w4 ⟨rfl,F⟩;rw[F];clear F w4;go_wp2;go_ret;refine⟨fun q=>(by rw[N.out,if_pos B.out]at q;cases q),fun g' c' l=>?_⟩;rw[N.out,if_pos B.out]at l;cases l;exact⟨ρ3,D,E,I,rfl,M,O.trans hφ.symm,⟨j.st,j.mv,j.js.up (by omega),j.ad⟩,T,ww.up (by omega)⟩
  ·have Ah:decide (2<a.length)=false:=by simpa using R
   have jo:a.length=2:=by omega
   have B:=aA (aI R jo);clear R jo;have c3:w3.cell? ⟨q,1,none⟩=some (.slice (adr ab) d.length (d.length+s.length)):=by rw[Qt.box.cell];rfl
   have Yq:d.length+s.length<=maxLen:=Qt.small;obtain⟨i1,L⟩:=exH (i+1);have yc:IntKind.i64.wrap ((i:Int)+1)=(i1:Int):=by
    have:=L.out
    rw[IntWalk.i64_in _ ⟨by omega,by omega⟩];omega
   have IF:d.length<=9223372036854775807:=by rw[m2];omega
   have HM:=aA (aI m2 m4);have HB:=aA yx;clear m2 m4 yx;by_cases ak:i1<d.length
   ·have DW:((i1:Nat):Int) <(d.length:Int):=by omega
    go_wp2_with fail
    refine(gC I (kc,a) _ m _ so).mono ?_;rintro e w4 ⟨rfl,F⟩;rw[F];clear F w4;go_wp2_with fail;refine(zF (K:=K+10) w3 ρ3 P D g1 E t H Pt b h lo hi d i c kc a q I j.st u p2 m1 (by have:=L.out;omega) HM.out.2.symm hd m6 B.out.2 O M ww (by omega) (by omega) (by omega) Fb T).mono ?_;intro e w5 hF;cases C:fillNext g1 b i c with
    | none=>
     obtain⟨rfl,ρ5,y,n,p,V,W,X⟩:=hF.no C;have ll:stepDel f b key=none:=by rw[N.out,if_neg B.out.1,if_pos (by have:=L.out;omega),C];rfl
     exact⟨rfl,fun _=>⟨rfl,ρ5,y,n,p,V,j.mv.trans W (fun _ _ e=>e),(j.js.trans X).up (by omega)⟩,fun g c l=>by rw[ll]at l;cases l⟩
    | some n=>
     obtain⟨rfl,ρ5,y,p,o,ef,El,S⟩:=hF.yes n C;have Z:stepDel f b key=some (n,c):=by rw[N.out,if_neg B.out.1,if_pos (by have:=L.out;omega),C];rfl
     have HR:=aA (show Dn 24 (fun _=>True) w ρ P A f J w5 ρ5 y n p/\Tch c p/\Sz (K+20) n from⟨⟨o.st,j.mv.trans o.mv (fun _ _ e=>e),(j.js.trans o.js).up (by omega),(j.ad.trans o.ad).up fun _ _=>trivial⟩,o.js.b5 c T,S.up (by omega)⟩);have U:=aA Z;clear Z hF o S j;go_wp2;go_ret;obtain⟨Bk,Q8,AQ⟩:=HR.out;refine⟨fun q=>(by rw[U.out]at q;cases q),fun g' c' l=>?_⟩;rw[U.out]at l;cases l;exact⟨ρ5,y,p,I,rfl,El.trans M,(ef.trans O).trans hφ.symm,Bk,Q8,AQ⟩
   ·have DW:¬((i1:Nat):Int) <(d.length:Int):=by omega
    go_wp2_with fail
    refine(gC I (kc,a) _ m _ so).mono ?_;rintro e w4 ⟨rfl,F⟩;rw[F];clear F w4;go_wp2_with fail;refine(zE (K:=K+10) w3 ρ3 P D g1 E t H Pt b h lo hi d i c kc a q I j.st u p2 m1 (by have:=L.out;have:=HM.out.1;omega) (by have:=HM.out.1;omega) HM.out.2.symm hd m6 B.out.2 O M ww (by omega) (by omega) (by omega) Fb T).mono ?_;intro e w5 hF;cases C:fillLast g1 b i c with
    | none=>
     obtain⟨rfl,ρ5,y,n,p,V,W,X⟩:=hF.no C;have ll:stepDel f b key=none:=by rw[N.out,if_neg B.out.1,if_neg (by have:=L.out;omega),C];rfl
     exact⟨rfl,fun _=>⟨rfl,ρ5,y,n,p,V,j.mv.trans W (fun _ _ e=>e),(j.js.trans X).up (by omega)⟩,fun g c l=>by rw[ll]at l;cases l⟩
    | some n=>
     obtain⟨rfl,ρ5,y,p,o,ef,El,S⟩:=hF.yes n C;have Z:stepDel f b key=some (n,c):=by rw[N.out,if_neg B.out.1,if_neg (by have:=L.out;omega),C];rfl
     have HR:=aA (show Dn 24 (fun _=>True) w ρ P A f J w5 ρ5 y n p/\Tch c p/\Sz (K+20) n from⟨⟨o.st,j.mv.trans o.mv (fun _ _ e=>e),(j.js.trans o.js).up (by omega),(j.ad.trans o.ad).up fun _ _=>trivial⟩,o.js.b5 c T,S.up (by omega)⟩);have U:=aA Z;clear Z hF o S j;go_wp2;go_ret;obtain⟨Bk,Q8,AQ⟩:=HR.out;refine⟨fun q=>(by rw[U.out]at q;cases q),fun g' c' l=>?_⟩;rw[U.out]at l;cases l;exact⟨ρ5,y,p,I,rfl,El.trans M,(ef.trans O).trans hφ.symm,Bk,Q8,AQ⟩
structure RmP(k:Nat)(L:Int)(w:World)(ρ:Nat->Nat)(P:Nat)(A:Adr)(f:fZ)(J:List aR)(r:Option fZ)(e:Ending)(w':World):Prop where
 no:r=none->Pk k w ρ P f J e w'
 yes:∀g,r=some g->e=.returned (.tuple #[])/\∃ρ' A' J',Dn k (fun _=>True) w ρ P A f J w' ρ' A' g J'/\Sz L g
structure RmR(w:World)(ρ:Nat->Nat)(P:Nat)(A:Adr)(f:fZ)(J:List aR)(K:Int)(t H:Nat)(key:ByteArray)(r:Option fZ)(h:Nat)(v:Value)(W:World):Prop where
 le:h<=H
 ex:∃q b ρ' A' f' J' H' Pt lo hi,v=.pointer (some ⟨q,0,none⟩)/\A'.φ b=some q/\Dn (12+25*(H-h)) (fun _=>True) w ρ P A f J W ρ' A' f' J'/\Sz (K+10+20*((H-h:Nat):Int)) f'/\Wk f' t H'/\aN f' t H' Pt b h lo hi/\(Pt≠[]->3<=sz f'.n b)/\cI f' t H'/\Mem f'.n h b key/\Tch b J'/\delAt h f' t b key=r
theorem aGG(w:World)(ρ:Nat->Nat)(P:Nat)(A:Adr)(f:fZ)(J:List aR)(t H:Nat)(key:ByteArray)(tu:St w ρ P A f J)(hW:Wk f t H)(ed:cI f t H)(ki:Mem f.n H (aB f t) key)(hz:Sz K f)(uq:1<=K)(hK:K+20*(H+3)<=600000)(lm:J.length+25*(H+3)<=500000):
  Calls Tryz.prog 84 #[.pointer (some ⟨P,0,none⟩),.pointer (some ⟨A.ra,t*2+1,none⟩),.string key] w (RmP (25*(H+3)) (K+20*(H+3)) w ρ P A f J (bU f t H key)):=by
 have hL:dT f (.root t):=hW.tl;have Qp:hZ A (.root t) ⟨A.ra,t*2+1,none⟩:=rfl;go_enter Tryz.func84,Tryz.ntmps84;go_wp2_with fail;refine(iO w ρ P A f J (.root t) ⟨A.ra,t*2+1,none⟩ tu hW.ic hz uq (by omega) (by omega) hL Qp (fun b i e=>by cases e)).mono ?_;intro e w3 hT;cases O:shadow f (.root t)with
 | none=>
  obtain⟨rfl,ρ3,A3,g3,J3,a1,a2,a3⟩:=hT.no O;have ll:bU f t H key=none:=by simp only[bU,O]
  exact⟨rfl,fun _=>⟨rfl,ρ3,A3,g3,J3,a1,a2,a3.up (by omega)⟩,fun g V=>by rw[ll]at V;cases V⟩
 | some gc=>
  obtain⟨g1,r⟩:=gc;obtain⟨ρ3,A3,J3,q3,rfl,BY,c,Cl,ww⟩:=hT.yes g1 r O;obtain⟨w1,p1,a1,a2,a3,a4,a5,a6⟩:=hW.ak O;have Nt:Mem g1.n H r key:=(hW.ba O key H).1 ki;have HD:Hid (bU f t H key=delAt H g1 t r key):=by
   show bU f t H key=_
   simp only[bU,O]
  obtain⟨m,xw,ol⟩:=mB (RmR w ρ P A f J K t H key (bU f t H key));have C1:=aA xw;have FN:=aA ol;have HX:=aA (aI hK lm);have Dw:∃h0,RmR w ρ P A f J K t H key (bU f t H key) h0 (.pointer (some ⟨q3,0,none⟩)) w3:=
   ⟨H,nR _,q3,r,ρ3,A3,g1,J3,H,_,_,_,rfl,BY,⟨c.st,c.mv,c.js.up (by omega),c.ad.top⟩,ww.up (by omega),w1,p1,fun q=>absurd rfl q,a5 ed,Nt,Cl,HD.out.symm⟩
  clear xw ol hK lm c hT HD;go_wp2;go_loopw [6] (fun v wr=>∃h,RmR w ρ P A f J K t H key (bU f t H key) h v wr) (fun v wr=>m v wr)
  case atStart=>exact Dw
  case round=>
   obtain⟨h',Aa⟩:=hrel;have hR:=C1.out _ _ _ Aa;clear Aa Dw;obtain⟨h,Hh⟩:=exH (m u6 wr);rw[<-Hh.out]at hR;obtain⟨oh,q,b,ρ4,A4,G,J4,H',Pt,lo,hi,rfl,tj,c,je,w4,Z,h3,OA,IG,Fb,yy⟩:=hR;have z:=aA oh;have Oi:=aA yy;clear oh yy;cases h with
   | succ h=>
    obtain⟨es,E,ue,aw⟩:=Z.inner w4;obtain⟨q',n,l,yg,ye,C⟩:=c.st.ah E;rw[tj]at l;cases l;have Wc:2<=sz G.n b:=by
     by_cases hP:Pt=[]
     ·rcases Z.top with⟨_,q,q'⟩ | ⟨q,_⟩
      ·rcases OA with hr | hr
       ·omega
       ·rw[<-q]at hr;exact hr
      ·rw[hP]at q;cases q
     ·have:=h3 hP;omega
    have c0:wr.cell? ⟨q,0,none⟩=some (.int .i64 2):=by rw[C.box.cell];rfl
    go_wp2_with fail
    refine(aCT (K:=K+10+20*((H -(h+1):Nat):Int)) wr ρ4 P A4 G J4 t H' Pt b h lo hi key q c.st w4 Z Wc tj je (by omega) (by have:=HX.out;have:=z.out;omega) (by have:=HX.out;have:=c.js.len;have:=z.out;omega) Fb).mono ?_;intro e M hS;cases jx:stepDel G b key with
    | none=>
     obtain⟨rfl,ρ5,s,d,D,b1,b2,b3⟩:=hS.no jx;have ll:bU f t H key=none:=by rw[<-Oi.out];unfold delAt;rw[jx]
     exact⟨rfl,fun _=>⟨rfl,ρ5,s,d,D,b1,c.mv.trans b2 (fun _ _ e=>e),(c.js.trans b3).up (by have:=z.out;omega)⟩,fun g V=>by rw[ll]at V;cases V⟩
    | some gc=>
     obtain⟨d,k⟩:=gc;obtain⟨ρ5,s,D,q5,rfl,Pg,TQ,u,Jd,BD⟩:=hS.yes d k jx;have Ih:s.φ b=some q:=TQ.trans tj;have y:Dn (12+25*(H -(h+1))+24) (fun _=>True) w ρ P A f J M ρ5 s d D:=⟨u.st,c.mv.trans u.mv (fun _ _ e=>e),c.js.trans u.js,(c.ad.trans u.ad).up fun _ _=>trivial⟩;have XH:Tch b D:=u.js.b5 b Fb;rcases aBR w4 Z h3 OA IG jx with⟨B,L,n2,R,X,⟨P',lo',ap,Y⟩,n6,n7,n8⟩ | ⟨F,L,n2,R,X,Y,n6,H5,n7,n8,n9,n10⟩
     ·obtain⟨q',a,l,-,-,o⟩:=u.st.ah L
      rw[Ih]at l;cases l;obtain⟨ab,q8⟩:∃ab,ab=s.α b:=⟨_,rfl⟩;rw[<-q8]at o;have c5':M.cell? ⟨q,1,none⟩=some (.slice (adr ab) B.length (B.length+a.length)):=by rw[o.box.cell];rfl
      have Yp:B.length+a.length<=maxLen:=o.small;have YU:((B.length:Int) == 1)=false:=by simp;omega
      have W:RmR w ρ P A f J K t H key (bU f t H key) h (.pointer (some ⟨q5,0,none⟩)) M:=
       ⟨by have:=z.out;omega,q5,k,ρ5,s,d,D,H',P',lo',ap,rfl,Pg,⟨y.st,y.mv,y.js.up (by have:=z.out;omega),y.ad⟩,BD.up (by have:=z.out;omega),X,Y,fun _=>n6,n7,n8,Jd,by rw[<-R];exact Oi.out⟩
      clear hS u c y o q8 n2 R;go_wp2;go_roundw
      case rel=>exact⟨h,W⟩
      case measure=>
       have h1:=FN.out _ _ _ W;have h2:=Hh.out;exact Nat.lt_of_le_of_lt h1 (by show h<m _ _;rw[<-h2];exact Nat.lt_succ_self h)
     ·obtain⟨q',a,l,TN,TL,o⟩:=u.st.ah L
      rw[Ih]at l;cases l;obtain⟨Q,Nc⟩:=o.bd (by simp);rw[Nc]at o;have c5':M.cell? ⟨q,1,none⟩=some (.slice (some ⟨Q,0,none⟩) 1 (1+a.length)):=by rw[o.box.cell];rfl
      have Cw:s.ra=A.ra:=y.ad.ra;have h0:0<=(d.r.getD t (0,0)).2:=(Y.rb _ (aP X)).1;obtain⟨El,-⟩:=u.st.bg X h0;rw[<-R,Cw]at El;have sa:k≠b:=fun e=>by
       have hk:k∈kids (2,[F]):=by rw[<-n2];simp[kids]
       rw[e]at hk;exact Y.ag L hk
      have Eg:b<d.c.length:=BD.lt b _ L;have NM:F.2.2=(k:Int):=by
       have:=Y.ar L (j:=0) (by simp)
       rw[<-n2];unfold ch;have e6:([F]:List E3).getD 0 e0=F:=rfl;rw[e6]at this;omega
      have HN:=aA (aI L (aI R n6));have FV:=y.js.len;clear R n6;go_wp2_with fail;refine(aIL M ρ5 P s d D b u.st BD (by have:=HX.out;have:=z.out;omega) Eg).mono ?_;rintro e S ⟨rfl,ρ6,I,T,U⟩;have mr:∀x,(x=cJ b\/x=cG b)->¬(x=1\/x=6\/x=3\/x=4):=fun x e=>by unfold cJ cG at e;omega
      have N:aM S q (2,[F]) (some Q) a:=o.ae U (by rw[TN];exact mr _ (.inl rfl)) (fun x e=>by cases e;rw[TL Q Nc];exact mr _ (.inr rfl));have c6:S.cell? ⟨q,1,none⟩=some (.slice (some ⟨Q,0,none⟩) 1 (1+a.length)):=by rw[N.box.cell];rfl
      have c7:S.cell? ⟨Q,2,none⟩=some (.int .i64 k):=by
       have:=(bJ (N.arr Q rfl).1 (i:=0) (by simp)).2.2
       rw[show(([F]++a:List E3).getD 0 e0)=F from rfl,NM]at this;simpa using this
      have Qn:dT (freeB d b) (.root t):=X;obtain⟨vr,c8,Lo,-⟩:=I.bz Qn (p:=⟨A.ra,t*2+1,none⟩) (by show _=_;rw[<-Cw];rfl);obtain⟨i9,UO⟩:=I.bP Qn (p:=⟨A.ra,t*2+1,none⟩) (by show _=_;rw[<-Cw];rfl) k;have Ic:Sz (K+10+20*((H -(h+1):Nat):Int)+20) (setL (freeB d b) (.root t) k):=by
       have ti:Sz (K+10+20*((H -(h+1):Nat):Int)+20) (freeB d b):=(BD.setC b (v:=0) (by omega) (by omega)).noN b;exact ti.setL Qn k
      have Qj:JS (12+25*(H -(h+1))+24+1+0+0) f J (setL (freeB d b) (.root t) k) (D++[(b,cu d b,d.n b)]):=((y.js.trans (JS.save Eg)).trans (JS.freeB Tch.saved)).trans (JS.setL (.root t) k fun b' i' e=>(by cases e));have Uf:Tch k (D++[(b,cu d b,d.n b)]):=(JS.save Eg).b5 k Jd;have H8:setL (freeB d b) (.root t) k=fallF d t (aB d t) k:=by rw[<-HN.out.2.1];rfl
      rw[H8]at i9 Ic Qj;have MU:AdS (fun _=>True) A (gW s b):=(y.ad.trans (AdS.del s b)).up fun _ _=>trivial;have W:RmR w ρ P A f J K t H key (bU f t H key) h (.pointer (some ⟨q5,0,none⟩)) (S.setCell ⟨A.ra,t*2+1,none⟩ (.int .i64 (k:Int))):=
       ⟨by have:=z.out;omega,q5,k,ρ6,gW s b,_,_,H5,[],none,none,rfl,(aC _ _ sa).trans Pg,⟨i9,(y.mv.trans T (fun _ _ e=>e)).trans UO (fun _ _ e=>e),Qj.up (by have:=z.out;omega),MU⟩,Ic.up (by have:=z.out;omega),n7,n8,fun q=>absurd rfl q,n9,n10,Uf,by rw[<-HN.out.2.2];exact Oi.out⟩
      clear hS u c y o N I i9 T UO U Ic Qj Uf H8 MU NM;go_wp2;go_roundw
      case rel=>exact⟨h,W⟩
      case measure=>
       have h1:=FN.out _ _ _ W;have h2:=Hh.out;exact Nat.lt_of_le_of_lt h1 (by show h<m _ _;rw[<-h2];exact Nat.lt_succ_self h)
   | zero=>
    obtain⟨es,E,ue,yx⟩:=Z.leaf w4;obtain⟨es',l,j,hj,hk⟩:=IG;rw[E]at l;cases l;have ak:cLt es key<es.length:=by rw[(kC ue.a6 hj hk).2];exact hj
    obtain⟨q',n,l,yg,ye,C⟩:=c.st.ah E;rw[tj]at l;cases l;have gd:=je.ai b _ E;simp only at gd;have eX:b<G.c.length:=je.lt b _ E;obtain⟨g,hg⟩:=C.bd (by simp only;omega);rw[hg]at C;have E7:bU f t H key=some (setN G b (1,delE es (cLt es key))):=by rw[<-Oi.out];unfold delAt;rw[aE E]
    have BF:=aA E7;clear E7;have c0:wr.cell? ⟨q,0,none⟩=some (.int .i64 1):=by rw[C.box.cell];rfl
    have c1:wr.cell? ⟨q,1,none⟩=some (.slice (some ⟨g,0,none⟩) es.length (es.length+n.length)):=by rw[C.box.cell];rfl
    have GN:NRd wr (.slice (some ⟨g,0,none⟩) es.length (es.length+n.length)) es:=C.dm.en;go_wp2_with fail;refine(iJ _ es key _ GN (by omega) ue.a6).mono ?_;rintro e M ⟨dz,he⟩;have Fh:e=.returned (.tuple #[.int .i64 (cLt es key),.bool (fI es key)]):=he;subst Fh;have de:=c.st.below dz;have o:=C.below dz;obtain⟨i,HI⟩:=exH (cLt es key);rw[<-HI.out]at ak |-;clear C GN c0 c1;go_wp2_with fail;refine(gV q g 1 es n i M o gd ak).mono ?_;rintro e S ⟨rfl,⟨junk6,N⟩,U⟩;obtain⟨I,T⟩:=de.aw E tj (U.wide fun x _ e=>by rcases e with e | e;exact .inl e;right;rw[hg,e]) (by rw[hg];exact N);rw[HI.out]at I;have HF:=aA (show Dn (25*(H+3)) (fun _=>True) w ρ P A f J S ρ4 A4 (setN G b (1,delE es (cLt es key))) J4/\Sz (K+20*(H+3)) (setN G b (1,delE es (cLt es key)))from
     ⟨⟨I,(c.mv.trans (Mv.aa dz) (fun _ _ e=>e)).trans T (fun _ _ e=>e),(c.js.trans (JS.setN _ Fb)).up (by omega),c.ad⟩,(je.up (by omega)).setN eX (by have:=bM es (cLt es key) (by rw[<-HI.out];exact ak);simp only;omega)⟩)
    clear I T N U de o c;go_wp2;first | go_end0 | refine bodyPost_ret (results_none rfl _ _ _) rfl ?_
    obtain⟨Bk,AQ⟩:=HF.out;refine⟨fun q=>(by rw[BF.out]at q;cases q),fun g' qh=>?_⟩;rw[BF.out]at qh;cases qh;exact⟨rfl,_,_,J4,Bk,AQ⟩
