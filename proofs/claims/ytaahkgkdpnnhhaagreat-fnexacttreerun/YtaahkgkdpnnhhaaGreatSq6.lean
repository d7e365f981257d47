import Derived.Deep.DeepCutAuto
import Derived.Test.YtaahkgkdpnnhhaaGreatSq2
set_option maxHeartbeats 9999999
set_option maxRecDepth 99999
set_option linter.all false
namespace Go.Proofs.YtaahkgkdpnnhhaaGreat
open Go.RowKit Fo
theorem Ely.Sl.dropN{α:Type}{Y:Ely α}{w:World}{g o len cap:Nat}{l:List α}(h:Y.Sl w (.slice (some ⟨g,o,none⟩) len cap) l)(k:Nat)(hk:k≤l.length)(c:Nat):Y.Sl w (.slice (some ⟨g,o+k*Y.n,none⟩) (l.length-k) c) (l.drop k):=by
 rcases h with⟨e,_⟩ | ⟨g',o',cap',xs,e,h1,h2,h3⟩
 ·cases e
 ·cases e
  refine .inr ⟨g,o'+k,c,xs,by rw[Nat.add_mul,List.length_drop],h1,by rw[List.length_drop];omega,?_⟩;rw[List.length_drop,←List.drop_drop];conv=>rhs;rw[←h3];rw[List.drop_take]
theorem Ely.Sl.takeN{α:Type}{Y:Ely α}{w:World}{g o len cap:Nat}{l:List α}(h:Y.Sl w (.slice (some ⟨g,o,none⟩) len cap) l)(k:Nat)(hk:k≤l.length)(c:Nat):Y.Sl w (.slice (some ⟨g,o,none⟩) k c) (l.take k):=by
 rcases h with⟨e,_⟩ | ⟨g',o',cap',xs,e,h1,h2,h3⟩
 ·cases e
 ·cases e
  refine .inr ⟨g,o',c,xs,by rw[List.length_take,Nat.min_eq_left hk],h1,by rw[List.length_take];omega,?_⟩;rw[List.length_take,Nat.min_eq_left hk];conv=>rhs;rw[←h3];rw[List.take_take,Nat.min_eq_left hk]
theorem Ely.Own.nv{w:World}{b:Nat}{u:Value}{l:List E3}(h:yE.Own b w u l)(k:Int):∃x:NV,u=.slice x.2.1 x.2.2.1 x.2.2.2∧x.1=k∧NdR w x (k,l):=by
 obtain⟨a,junk,rfl,h1,h2⟩:=h;exact⟨(k,adr a,l.length,l.length+junk.length),rfl,rfl,rfl,h1.sl,Nat.le_add_right _ _⟩
theorem bV{W:World}{g q:Nat}{x v0 v1:Value}{B o:Nat}(hne:B≠g)(h:W.cell? ⟨B,o,none⟩=some x):((W.setCell ⟨g,q*2,none⟩ v0).setCell ⟨g,q*2+1,none⟩ v1).drew.cell? ⟨B,o,none⟩=some x:=by
 rw[jH _ _ _ _ _ (.inl hne)];exact h
structure SaS(A A':SA):Prop where
 ga:A'.ga=A.ga
 nj:A'.nj=A.nj
 gr:A'.gr=A.gr
 rj:A'.rj=A.rj
 cv:A'.cv=A.cv
 tv:A'.tv=A.tv
theorem SaS.refl(A:SA):SaS A A:=⟨rfl,rfl,rfl,rfl,rfl,rfl⟩
theorem SaS.trans{A B C:SA}(h:SaS A B)(k:SaS B C):SaS A C:=⟨k.ga.trans h.ga,k.nj.trans h.nj,k.gr.trans h.gr,k.rj.trans h.rj,k.cv.trans h.cv,k.tv.trans h.tv⟩
theorem SaS.setN(A:SA)(q:Nat)(x:NV):SaS A (A.setN q x):=⟨rfl,rfl,rfl,rfl,rfl,rfl⟩
structure Zt(w:World)(S:Nat)(A:SA)(g:fZ)(w':World):Prop where
 ex:∃A',Sp w' S A' g∧SaS A A'
 frm:Frm (fun k=>k=A.ga) w w'
theorem sE{f:fZ}(w:World)(S:Nat)(A:SA)(h:Sp w S A f)(b q:Nat)(k:Int)(es:List E3)(hd:f.nodes b=some (k,es))(h5:es.length=5)(hb:b<f.cur.length)(hq:q<f.cur.length)(hbq:b≠q):
  Calls Tryz.prog 89 #[.pointer (some ⟨S,0,none⟩),.int .i64 b,.int .i64 q] w fun r w'=>r=.returned (.tuple #[])∧Zt w S A (setN (setN f q (k,es.drop 3)) b (k,es.take 3)) w':=by
 have hbn:=gQ;obtain⟨_,s1,_⟩:=h.cells;obtain⟨a,c,hsl,hbl,hns,c0,c1,hcp⟩:=h.v.nds.at hd;obtain⟨g,o,cp',he,hg,_⟩:=dZ hsl (by simp only;omega);cases he;have hbI:(b:Int) <(A.ns.length:Int):=by omega
 have hqI:(q:Int) <(A.ns.length:Int):=by rw[h.v.ln];omega
 simp only at c0 c1 hcp hsl
 obtain⟨B,hB⟩:=eZ (w.heap.size);obtain⟨w0,hw0⟩:=eZ (w.alloc (.cells #[.int .i64 k,.slice (some ⟨g,o,none⟩) 5 c] 108));rw[h5]at hcp;have hc3:¬c=3:=by omega
 have hc3':(3:Int)≤(c:Int):=by omega
 have hd3:yE.Sl w (.slice (some ⟨g,o+9,none⟩) 2 (c-3)) (es.drop 3):=by have:=hsl.dropN 3 (by omega) (c-3);rw[h5]at this;exact this
 have ht3:yE.Sl w (.slice (some ⟨g,o,none⟩) 3 c) (es.take 3):=hsl.takeN 3 (by omega) c;rw[h5]at c1;have hB0:Bl w w0:=by rw[←hw0];exact(bQ w.heap.size w).alloc (nR _) _
 have hbx:=iNw hw0 hB;have hSg:S≠A.ga:=h.box.type_ne h.v.nds.arr (by decide);have hBg:B≠A.ga:=by have:=h.v.nds.arr.lt;omega
 have hS0:=h.below hB0;obtain⟨_,t1,_⟩:=hS0.cells;have b0:w0.cell? ⟨B,0,none⟩=some (.int .i64 k):=hbx.c rfl;have b1:w0.cell? ⟨B,1,none⟩=some (.slice (some ⟨g,o,none⟩) 5 c):=hbx.c rfl;have HJ1:Hid (Calls Tryz.prog 108 #[.slice (some ⟨g,o+9,none⟩) 2 (c-3),.slice none 0 0] w0.drew fun r w'=>∃x:NV,r=.returned (.slice x.2.1 x.2.2.1 x.2.2.2)∧x.1=k∧NdR w' x (k,es.drop 3)∧Bl w0 w'):=by
  refine(mX _ _ (es.drop 3) [] w0.drew (hd3.below hB0.drew) (.inl ⟨rfl,rfl⟩) (by simp;omega) (by simp)).mono ?_;rintro r w1 ⟨u,rfl,hu,hb1⟩;rw[List.append_nil]at hu;obtain⟨x,rfl,h1,h2⟩:=hu.nv k;exact⟨x,rfl,h1,h2,(bQ w0.heap.size w0).drew.trans hb1⟩
 have HJ2:Hid (∀w2:World,Frm (fun k=>k=A.ga) w w2→Calls Tryz.prog 108 #[.slice (some ⟨g,o,none⟩) 3 c,.slice none 0 0] w2.drew fun r w'=>∃x:NV,r=.returned (.slice x.2.1 x.2.2.1 x.2.2.2)∧x.1=k∧NdR w' x (k,es.take 3)∧Bl w2 w'):=fun w2 hF=>by
  refine(mX _ _ (es.take 3) [] w2.drew (ht3.frm (hF.trans (Frm.drew _ _)) fun g cs hg=>hg.type_ne h.v.nds.arr (by decide)) (.inl ⟨rfl,rfl⟩) (by simp;omega) (by simp)).mono ?_;rintro r w1 ⟨u,rfl,hu,hb1⟩;rw[List.append_nil]at hu;obtain⟨x,rfl,h1,h2⟩:=hu.nv k;exact⟨x,rfl,h1,h2,(bQ w2.heap.size w2).drew.trans hb1⟩
 have HS:=aA hS0;have HB:=aA hbx;obtain⟨f0,f1,hf0,hf1,hz0,hz1,_⟩:=hS0.wr hq;have HC:Hid (∀w1:World,Bl w0 w1→w1.cell? ⟨S,1,none⟩=some (.slice (some ⟨A.ga,0,none⟩) A.ns.length (A.ns.length+A.nj.length))∧w1.cell? ⟨B,0,none⟩=some (.int .i64 k)∧w1.cell? ⟨B,1,none⟩=some (.slice (some ⟨g,o,none⟩) 5 c)):=fun w1 hb=>by
  refine⟨(hS0.below hb).cells.2.1,?_,?_⟩
  ·rw[(hbx.of (hb.block _ hbx.lt)).cell];rfl
  ·rw[(hbx.of (hb.block _ hbx.lt)).cell];rfl
 have HW:Hid (∀w1:World,Bl w0 w1→∃k0 k1,w1.cell? ⟨A.ga,q*2,none⟩=some k0∧w1.cell? ⟨A.ga,q*2+1,none⟩=some k1∧w1.frozen? ⟨A.ga,q*2,none⟩=false∧w1.frozen? ⟨A.ga,q*2+1,none⟩=false):=fun w1 hb=>by
  obtain⟨k0,k1,h1,h2,h3,h4,_⟩:=(hS0.below hb).wr hq;exact⟨k0,k1,h1,h2,h3,h4⟩
 have H5:=aA h5;clear h5 hd3 ht3 hsl hbx hS0;go_enter Tryz.func89,Tryz.ntmps89;go_wp2;go_region_held3 (fun W=>W.cell? ⟨S,1,none⟩=some (.slice (some ⟨A.ga,0,none⟩) A.ns.length (A.ns.length+A.nj.length))∧W.cell? ⟨B,0,none⟩=some (.int .i64 k)∧W.cell? ⟨B,1,none⟩=some (.slice (some ⟨g,o,none⟩) 5 c)) (first | assumption | go_keep | exact⟨bV hSg hX1,bV hBg hX2,bV hBg hX3⟩) ((go_at_call 108;refine HJ1.out.mono ?_;rintro r w1 ⟨x,rfl,hxk,hxN,hb1⟩;obtain⟨hX1,hX2,hX3⟩:=HC.out w1 hb1;obtain⟨k0,k1,hk0,hk1,hz0,hz1⟩:=HW.out w1 hb1));have hS2:Sp (set2 w1 A.ga q x) S (A.setN q x) (setN f q (k,es.drop 3)):=(HS.out.below hb1).set2 hq hxN;have hw2:(w1.setCell ⟨A.ga,q*2,none⟩ (.int .i64 k)).setCell ⟨A.ga,q*2+1,none⟩ (.slice x.2.1 x.2.2.1 x.2.2.2)=set2 w1 A.ga q x:=by unfold set2;rw[hxk]
 rw[hw2];have hF2:Frm (fun k=>k=A.ga) w (set2 w1 A.ga q x):=((Frm.of_below hB0).trans (Frm.of_below hb1)).trans (eF w1 A.ga q x);have hbx2:IsC (set2 w1 A.ga q x) B #[.int .i64 k,.slice (some ⟨g,o,none⟩) 5 c] 108:=(HB.out.of (hb1.block _ HB.out.lt)).frm (eF w1 A.ga q x) hBg;generalize set2 w1 A.ga q x=w2 at *;obtain⟨_,t1,_⟩:=hS2.cells;have b0:w2.cell? ⟨B,0,none⟩=some (.int .i64 k):=hbx2.c rfl;have b1:w2.cell? ⟨B,1,none⟩=some (.slice (some ⟨g,o,none⟩) 5 c):=hbx2.c rfl;have HA:Hid ((A.setN q x).ns.length=A.ns.length):=by simp[SA.setN,Hid]
 have t1':w2.cell? ⟨S,1,none⟩=some (.slice (some ⟨A.ga,0,none⟩) A.ns.length (A.ns.length+A.nj.length)):=by rw[HA.out]at t1;exact t1
 have HC2:Hid (∀w1:World,Bl w2 w1→w1.cell? ⟨S,1,none⟩=some (.slice (some ⟨A.ga,0,none⟩) A.ns.length (A.ns.length+A.nj.length))∧w1.cell? ⟨B,0,none⟩=some (.int .i64 k)∧w1.cell? ⟨B,1,none⟩=some (.slice (some ⟨g,o,none⟩) 5 c)):=fun w1 hb=>by
  refine⟨?_,?_,?_⟩
  ·have:=(hS2.below hb).cells.2.1
   rw[HA.out]at this;exact this
  ·rw[(hbx2.of (hb.block _ hbx2.lt)).cell];rfl
  ·rw[(hbx2.of (hb.block _ hbx2.lt)).cell];rfl
 have HW2:Hid (∀w1:World,Bl w2 w1→∃k0 k1,w1.cell? ⟨A.ga,b*2,none⟩=some k0∧w1.cell? ⟨A.ga,b*2+1,none⟩=some k1∧w1.frozen? ⟨A.ga,b*2,none⟩=false∧w1.frozen? ⟨A.ga,b*2+1,none⟩=false):=fun w1 hb'=>by
  obtain⟨k0,k1,h1,h2,h3,h4,_⟩:=(hS2.below hb').wr (q:=b) hb;exact⟨k0,k1,h1,h2,h3,h4⟩
 have HS2:=aA hS2;have HF2:=aA hF2;have HJ:=HJ2.out w2 hF2;have HJ3:=aA HJ;clear hX1 hX2 hX3 hk0 hk1 hz0 hz1 hS2 hbx2 HJ t1 hf0 hf1 hw2 hF2;go_wp2;go_region_held3 (fun W=>W.cell? ⟨S,1,none⟩=some (.slice (some ⟨A.ga,0,none⟩) A.ns.length (A.ns.length+A.nj.length))∧W.cell? ⟨B,0,none⟩=some (.int .i64 k)∧W.cell? ⟨B,1,none⟩=some (.slice (some ⟨g,o,none⟩) 5 c)) (first | assumption | go_keep | exact⟨bV hSg hX1,bV hBg hX2,bV hBg hX3⟩) ((go_at_call 108;refine HJ3.out.mono ?_;rintro r w3 ⟨y,rfl,hyk,hyN,hb3⟩;obtain⟨hX1,hX2,hX3⟩:=HC2.out w3 hb3;obtain⟨k0,k1,hk0,hk1,hz0,hz1⟩:=HW2.out w3 hb3));have hw4:(w3.setCell ⟨A.ga,b*2,none⟩ (.int .i64 k)).setCell ⟨A.ga,b*2+1,none⟩ (.slice y.2.1 y.2.2.1 y.2.2.2)=set2 w3 A.ga b y:=by unfold set2;rw[hyk]
 rw[hw4];have HR:Hid (Zt w S A (setN (setN f q (k,es.drop 3)) b (k,es.take 3)) (set2 w3 A.ga b y)):=
  ⟨⟨_,(HS2.out.below hb3).set2 (q:=b) hb hyN,(SaS.setN A q x).trans (SaS.setN _ b y)⟩,(HF2.out.trans (Frm.of_below hb3)).trans (eF w3 A.ga b y)⟩
 clear hw4 hX1 hX2 hX3 hk0 hk1 hz0 hz1;go_wp2;exact⟨rfl,.tuple #[],by simp[results,Tryz.f89,go_sem],rfl,HR.out⟩
theorem aMM(W:World)(k v:ByteArray):(Instr.build 110 #[(0,.string k),(1,.string v)]).run Tryz.prog W=.ok (.agg #[.string k,.string v,.int .i64 0]) W:=by kernel_rfl
structure ZpP(w:World)(S:Nat)(A:SA)(r:Option fZ)(e:Ending)(w':World):Prop where
 no:r=none→e=.returned (.bool false)∧Frm (fun k=>k=A.ga) w w'
 yes:∀g,r=some g→e=.returned (.bool true)∧Zt w S A g w'
theorem Sp.store{w w1:World}{S:Nat}{A:SA}{f:fZ}(h:Sp w S A f)(hb:Bl w w1){q:Nat}(hq:q<f.cur.length){x:NV}{d:Nd}(hx:NdR w1 x d):Zt w S A (Fo.setN f q d) (Go.Proofs.YtaahkgkdpnnhhaaGreat.set2 w1 A.ga q x):=
 ⟨⟨_,(h.below hb).set2 hq hx,SaS.setN A q x⟩,(Frm.of_below hb).trans (eF w1 A.ga q x)⟩
theorem dG{w:World}{g q:Nat}{x:NV}{k:Int}(h:x.1=k):(w.setCell ⟨g,q*2,none⟩ (.int .i64 k)).setCell ⟨g,q*2+1,none⟩ (.slice x.2.1 x.2.2.1 x.2.2.2)=set2 w g q x:=by unfold set2;rw[h]
theorem Sp.swapped{w:World}{S:Nat}{A:SA}{f:fZ}(h:Sp w S A f)(v:Value)(es:List E3)(i:Nat)(e:E3)(hv:yE.Sl w v es)(hi:i<es.length)(hl:es.length≤100)(k:Int){b:Nat}(hb:b<f.cur.length):
  Calls Tryz.prog 94 #[v,.int .i64 i,.agg #[.string e.1,.string e.2.1,.int .i64 e.2.2]] w.drew fun r w'=>∃x:NV,r=.returned (.slice x.2.1 x.2.2.1 x.2.2.2)∧x.1=k∧NdR w' x (k,es.set i e)∧Bl w w'∧w'.cell? ⟨S,1,none⟩=some (.slice (some ⟨A.ga,0,none⟩) A.ns.length (A.ns.length+A.nj.length))∧
   ∃k0 k1,w'.cell? ⟨A.ga,b*2,none⟩=some k0∧w'.cell? ⟨A.ga,b*2+1,none⟩=some k1∧w'.frozen? ⟨A.ga,b*2,none⟩=false∧w'.frozen? ⟨A.ga,b*2+1,none⟩=false:=by
 refine(eR v es i e w.drew (hv.below (bQ _ w).drew) hi hl).mono ?_;rintro r w1 ⟨u,rfl,hu,hb1⟩;obtain⟨x,rfl,h1,h2⟩:=hu.nv k;have hB:Bl w w1:=(bQ _ w).drew.trans hb1;obtain⟨k0,k1,y1,y2,y3,y4,_⟩:=(h.below hB).wr hb;exact⟨x,rfl,h1,h2,hB,(h.below hB).cells.2.1,k0,k1,y1,y2,y3,y4⟩
theorem Sp.inserted{w:World}{S:Nat}{A:SA}{f:fZ}(h:Sp w S A f)(v:Value)(es:List E3)(i:Nat)(e:E3)(hv:yE.Sl w v es)(hi:i≤es.length)(hl:es.length≤100)(k:Int){b:Nat}(hb:b<f.cur.length):
  Calls Tryz.prog 109 #[v,.int .i64 i,.agg #[.string e.1,.string e.2.1,.int .i64 e.2.2]] w.drew fun r w'=>∃x:NV,r=.returned (.slice x.2.1 x.2.2.1 x.2.2.2)∧x.1=k∧NdR w' x (k,insE es i e)∧Bl w w'∧w'.cell? ⟨S,1,none⟩=some (.slice (some ⟨A.ga,0,none⟩) A.ns.length (A.ns.length+A.nj.length))∧
   ∃k0 k1,w'.cell? ⟨A.ga,b*2,none⟩=some k0∧w'.cell? ⟨A.ga,b*2+1,none⟩=some k1∧w'.frozen? ⟨A.ga,b*2,none⟩=false∧w'.frozen? ⟨A.ga,b*2+1,none⟩=false:=by
 refine(oH v es i e w.drew (hv.below (bQ _ w).drew) hi hl).mono ?_;rintro r w1 ⟨u,rfl,hu,hb1⟩;obtain⟨x,rfl,h1,h2⟩:=hu.nv k;have hB:Bl w w1:=(bQ _ w).drew.trans hb1;obtain⟨k0,k1,y1,y2,y3,y4,_⟩:=(h.below hB).wr hb;exact⟨x,rfl,h1,h2,hB,(h.below hB).cells.2.1,k0,k1,y1,y2,y3,y4⟩
theorem wB{f:fZ}(w:World)(S:Nat)(A:SA)(h:Sp w S A f)(b:Nat)(es:List E3)(key val:ByteArray)(hd:f.nodes b=some (1,es))(hs:Srt es)(h0:∀i,i<es.length→(es.getD i e0).2.2=0)(h5:es.length≤10)(hb:b<f.cur.length):
  Calls Tryz.prog 90 #[.pointer (some ⟨S,0,none⟩),.int .i64 b,.string key,.string val] w fun e w'=>e=.returned (.bool true)∧Zt w S A (setN f b (1,putE es key val)) w':=by
 have hbn:=gQ;have hbe:=aMM;obtain⟨_,s1,_⟩:=h.cells;obtain⟨a,c,hsl,hbl,hns,c0,c1,hcp⟩:=h.v.nds.at hd;simp only at hsl c0 c1;have hpos:0<es.length→_:=fun h=>dZ hsl h;have hbI:(b:Int) <(A.ns.length:Int):=by omega
 have hSg:S≠A.ga:=h.box.type_ne h.v.nds.arr (by decide);have HSW:=aA fun(i:Nat) (hi:i<es.length)=>h.swapped (.slice a es.length c) es i (key,val,0) hsl hi (by omega) 1 hb;have HIN:=aA fun(i:Nat) (hi:i≤es.length)=>h.inserted (.slice a es.length c) es i (key,val,0) hsl hi (by omega) 1 hb;clear hsl hns hcp;go_enter Tryz.func90,Tryz.ntmps90;go_wp2;go_loopw [10,11] (fun u k wr=>∃j:Nat,j≤es.length∧k=.int .i64 j∧Is2 u (.int .i64 (rX es key j)) wr w∧Hid (∀x,x<j→ky es x≠key)) (fun _ k _=>es.length -(intOf k).toNat)
 case atStart=>exact⟨0,by omega,rfl,⟨rfl,rfl⟩,fun x hx=>by omega⟩
 case round=>
  obtain⟨j,hj,rfl,⟨rfl,rfl⟩,hall⟩:=hrel;by_cases hlt:j<es.length
  ·obtain⟨g,o,c',he,hg,hcell⟩:=hpos (by omega)
   cases he
   obtain⟨x0,x1,x2⟩:=hcell wr j rfl hlt;have hji:(j:Int) <(es.length:Int):=by omega
   have HK:Hid (ky es j=(es.getD j e0).1):=rfl;clear hpos hcell;generalize (es.getD j e0).1=x at *;by_cases he:x=key
   ·have HP:=aA (aGI (val:=val) hs h0 hlt (HK.out.trans he))
    have hq:(x.toList == key.toList)=true:=by rw[he];exact beq_self_eq_true _
    clear he;have HC:=HSW.out j hlt;have HCH:=aA HC;clear HC HSW HIN;go_wp2;go_region_held3 (fun W=>W.cell? ⟨S,1,none⟩=some (.slice (some ⟨A.ga,0,none⟩) A.ns.length (A.ns.length+A.nj.length))) (first | assumption | go_keep | exact bV hSg hX1) ((go_at_call 94;refine HCH.out.mono ?_;rintro r w1 ⟨y,rfl,hxk,hxN,hb1,hX1,k0,k1,hk0,hk1,hz0,hz1⟩));rw[dG hxk];have HR:Hid (Zt wr S A (setN f b (1,putE es key val)) (set2 w1 A.ga b y)):=by rw[HP.out];exact h.store hb1 hb hxN
    go_wp2
    go_ret
    exact⟨rfl,HR.out⟩
   ·have hq:(x.toList == key.toList)=false:=by rw[beq_eq_false_iff_ne];exact fun e=>he (gP e)
    have HA:Hid (∀z,z<j+1→ky es z≠key):=fun z hz=>by
     by_cases e:z=j
     ·rw[e,HK.out];exact he
     ·exact hall.out z (by omega)
    have HS:Hid (rX es key (j+1)=if kl (ky es j) key=true then j+1 else rX es key j):=rfl;have HB:Hid (kl (ky es j) key=Op.bytesLess x.toList key.toList):=by show kl (ky es j) key=_;rw[HK.out];rfl
    clear he HSW HIN;cases hl:Op.bytesLess x.toList key.toList with
    | true=>
     rw[HB.out,if_pos hl]at HS;go_wp2;go_roundw
     case rel=>exact⟨j+1,by omega,by go_num,⟨by rw[HS.out];go_num,rfl⟩,HA.out⟩
     case measure=>simp[intOf];omega
    | false=>
     rw[HB.out,if_neg (by rw[hl];simp)]at HS;go_wp2;go_roundw
     case rel=>exact⟨j+1,by omega,by go_num,⟨by rw[HS.out],rfl⟩,HA.out⟩
     case measure=>simp[intOf];omega
  ·obtain rfl:j=es.length:=by omega
   have HP:=aA (aIY (val:=val) hs hall.out);have hle:rX es key es.length≤es.length:=by rw[zB hs];exact kU _ _
   have HCH:=aA (HIN.out _ hle);generalize rX es key es.length=at' at *;clear HSW HIN hpos;go_wp2;go_region_held3 (fun W=>W.cell? ⟨S,1,none⟩=some (.slice (some ⟨A.ga,0,none⟩) A.ns.length (A.ns.length+A.nj.length))) (first | assumption | go_keep | exact bV hSg hX1) ((go_at_call 109;refine HCH.out.mono ?_;rintro r w1 ⟨x,rfl,hxk,hxN,hb1,hX1,k0,k1,hk0,hk1,hz0,hz1⟩));rw[dG hxk];have HR:Hid (Zt wr S A (setN f b (1,putE es key val)) (set2 w1 A.ga b x)):=by rw[HP.out];exact h.store hb1 hb hxN
   go_wp2
   go_ret
   exact⟨rfl,HR.out⟩
structure Fin(f' g:fZ)(b:Nat)(d:Nd):Prop where
 sub:∀x d',g.nodes x=some d'→(setN f' b d).nodes x=some d'
 len:g.cur.length=f'.cur.length
 roots:g.roots=f'.roots
 next:g.next=f'.next
 gen:g.gen=f'.gen
 com:g.com=f'.com
theorem Sp.fin{w w1:World}{S:Nat}{A:SA}{f' g:fZ}(h:Sp w S A f')(hb:Bl w w1){b:Nat}(hq:b<f'.cur.length){x:NV}{d:Nd}(hx:NdR w1 x d)(k:Fin f' g b d):Zt w S A g (Go.Proofs.YtaahkgkdpnnhhaaGreat.set2 w1 A.ga b x):=by
 obtain⟨⟨A',h1,h2⟩,h3⟩:=h.store hb hq hx;exact⟨⟨A',h1.sub k.sub k.len k.roots k.next k.gen k.com,h2⟩,h3⟩
theorem Zt.trans{w w1 w2:World}{S:Nat}{A A1:SA}{g:fZ}(hF:Frm (fun k=>k=A.ga) w w1)(hA:SaS A A1)(h:Zt w1 S A1 g w2):Zt w S A g w2:=by
 obtain⟨⟨A2,h1,h2⟩,h3⟩:=h;rw[hA.ga]at h3;exact⟨⟨A2,h1,hA.trans h2⟩,hF.trans h3⟩
theorem ZpP.trans{w w1:World}{S:Nat}{A A1:SA}{r:Option fZ}{e:Ending}{w2:World}(hF:Frm (fun k=>k=A.ga) w w1)(hA:SaS A A1)(h:ZpP w1 S A1 r e w2):ZpP w S A r e w2:=
 ⟨fun q=>⟨(h.no q).1,by have:=(h.no q).2;rw[hA.ga]at this;exact hF.trans this⟩,fun g q=>⟨(h.yes g q).1,Zt.trans hF hA (h.yes g q).2⟩⟩
theorem ZpP.ret{w:World}{S:Nat}{A:SA}{r:Option fZ}{e:Ending}{w2:World}(h:ZpP w S A r e w2):∃v,e=.returned (.bool v):=by
 cases r with
 | none=>exact⟨_,(h.no rfl).1⟩
 | some g=>exact⟨_,(h.yes g rfl).1⟩
structure ZsP(w:World)(S:Nat)(A:SA)(f:fZ)(b i:Nat)(es:List E3)(r:Ending)(w':World):Prop where
 frm:Frm (fun k=>k=A.ga) w w'
 no:shadow f (.ent b i)=none→r=.returned (.int .i64 (-1))
 yes:∀g c,shadow f (.ent b i)=some (g,c)→r=.returned (.int .i64 c)∧∃A' f',Sp w' S A' f'∧SaS A A'∧f'.cur.length=f.cur.length∧Fin f' g b (2,es.set i (ky es i,.empty,(c:Int)))
theorem gU{f:fZ}(hI:IC f)(hE:∀b d,f.nodes b=some d→d.2.length≤10)(hV:VE f)(w:World)(S:Nat)(A:SA)(h:Sp w S A f)(h16:f.roots.length≤16)(b i:Nat)(es:List E3)(hes:f.nodes b=some (2,es))(hi:i<es.length):
  Calls Tryz.prog 87 #[.pointer (some ⟨S,0,none⟩),.int .i64 (kd es i)] w (ZsP w S A f b i es):=by
 obtain⟨d,hd⟩:=hI.kid_live hes (aO hi);refine(nT hI hE w S A h h16 (kd es i) d hd).mono ?_;intro r w' hz;rcases tK hI hV hes hi hd with⟨ho,hs,he⟩ | ⟨ho,hl,hs⟩ | ⟨ho,hl,g,hs,h1,h2,h3⟩
 ·obtain⟨rfl,hb⟩:=hz.own ho
  refine⟨Frm.of_below hb,fun q=>(by rw[hs]at q;cases q),fun g c q=>?_⟩;rw[hs]at q;cases q;refine⟨rfl,A,f,h.below hb,SaS.refl _,rfl,fun x d' hx=>?_,rfl,rfl,rfl,rfl,rfl⟩;rw[he];show upd f.nodes b (some (2,es)) x=some d'
  by_cases e:x=b
  ·rw[e,aD,←hes,←e];exact hx
  ·rw[aC _ _ e];exact hx
 ·obtain⟨rfl,hb⟩:=hz.no ho hl
  exact⟨Frm.of_below hb,fun _=>rfl,fun g c q=>by rw[hs]at q;cases q⟩
 ·obtain⟨rfl,hS,hF⟩:=hz.yes ho hl
  refine⟨hF,fun q=>(by rw[hs]at q;cases q),fun g' c q=>?_⟩;rw[hs]at q;cases q;exact⟨rfl,_,_,hS,SaS.setN _ _ _,rfl,h3,h2.cur,h1,h2.next,h2.gen,h2.com⟩
structure Ct1(w:World)(S:Nat)(A:SA)(f1:fZ)(es1:List E3)(s9:Value)(wx:World):Prop where
 ex:∃A1,Sp wx S A1 f1∧SaS A A1
 frm:Frm (fun k=>k=A.ga) w wx
 sl:yE.Sl wx s9 es1
theorem uM{f:fZ}{t H:Nat}{P:List Nat}{b h:Nat}{lo hi:OB}{key val:ByteArray}(wk:Wk f t H)(p:aN f t H P b (h+1) lo hi)(hl:loR lo key)(hh:hiR hi key)(h5:sz f.nodes b<5)(hV:VE f)(h16:f.roots.length≤16)
  (ih:∀(g:fZ) (c:Nat) (P':List Nat) (lo' hi':OB),Wk g t H→aN g t H P' c h lo' hi'→loR lo' key→hiR hi' key→sz g.nodes c<5→VE g→g.roots.length≤16→∀(w:World) (S:Nat) (A:SA),Sp w S A g→Calls Tryz.prog 90 #[.pointer (some ⟨S,0,none⟩),.int .i64 c,.string key,.string val] w (ZpP w S A ((putAt h g c key val).map Prod.fst)))
  (w:World) (S:Nat) (A:SA) (hS:Sp w S A f):Calls Tryz.prog 90 #[.pointer (some ⟨S,0,none⟩),.int .i64 b,.string key,.string val] w (ZpP w S A ((putAt (h+1) f b key val).map Prod.fst)):=by
 have hbn:=gQ;have hbe:=iT;obtain⟨es,hes,hnr,hne⟩:=p.inner wk;have hlen:es.length≤5:=wk.ent hes;have hbl:=wk.ic.lt hes;have hpos:0<es.length:=List.length_pos_iff.2 hne;obtain⟨wk1,p1,_⟩:=wk.lowKey p hes key hl;obtain⟨v0,v1⟩:=hV.inner wk.ic hes hpos;obtain⟨_,s1,_⟩:=hS.cells;obtain⟨a,c,hsl,hbA,hns,c0,c1,hcp⟩:=hS.v.nds.at hes;simp only at hsl c0 c1;have hSg:S≠A.ga:=hS.box.type_ne hS.v.nds.arr (by decide);have hbI:(b:Int) <(A.ns.length:Int):=by omega
 have hp0:(0:Int) <(es.length:Int):=by omega
 have HL:=aA (aI hl hh);have HPA:Hid (putAt (h+1) f b key val=match stepDown f b key with
  | none=>none
  | some (g,c)=>putAt h g c key val):=rfl
 have HSE:=aA (pL hes key);rw[HSE.out]at HPA;have HK:Hid (lowK es key=if kl key (ky es 0)=true then es.set 0 (key,(es.getD 0 e0).2)else es):=rfl;have hV1:VE (setN f b (2,lowK es key)):=hV.setN b (VL.lowK (hV b _ hes) key);have HSW:=hS.swapped (.slice a es.length c) es 0 (key,.empty,(kd es 0:Int)) hsl hpos (by omega) 2 hbl;obtain⟨g0,o0,cc,he,hg0,hcell⟩:=dZ hsl hpos;cases he;obtain⟨x0,x1,x2⟩:=hcell w 0 rfl hpos;rw[v0]at x0 x1 x2;simp only[Nat.zero_mul,Nat.add_zero]at x0 x1 x2;have HQ:Hid (ky es 0=ky es 0):=rfl;have HB:Hid (kl key (ky es 0)=Op.bytesLess key.toList (ky es 0).toList):=rfl;clear hcell;generalize putAt (h+1) f b key val=PA at *;have HSP:=aA hS;have HSL:=aA hsl;go_enter Tryz.func90,Tryz.ntmps90;go_upto_if 86 with fail
 go_cut [9] (fun s9 wx=>Ct1 w S A (setN f b (2,lowK es key)) (lowK es key) s9 wx)
 case first=>
  by_cases hk:kl key (ky es 0)=true
  ·have hk':Op.bytesLess key.toList (ky es 0).toList=true:=hk
   have HKK:Hid (lowK es key=es.set 0 (key,.empty,(kd es 0:Int))):=by show lowK es key=_;rw[HK.out,if_pos hk,v0]
   have HSW2:Hid (Calls Tryz.prog 94 #[.slice (some ⟨g0,o0,none⟩) es.length c,.int .i64 0,.agg #[.string key,.string .empty,.int .i64 (kd es 0)]] w fun r w'=>∃u,r=.returned u∧yE.Own w.heap.size w' u (es.set 0 (key,.empty,(kd es 0:Int)))∧Bl w w'):=eR _ es 0 (key,.empty,(kd es 0:Int)) w HSL.out hpos (by omega);rw[hk'];clear hk HSW hk';go_wp2_with fail;refine HSW2.out.mono ?_;rintro r w1 ⟨u,rfl,hu,hb1⟩;obtain⟨x,rfl,hxk,hxN⟩:=hu.nv 2;have hS1:=HSP.out.below hb1;obtain⟨k0,k1,hk0,hk1,hz0,hz1,_⟩:=hS1.wr hbl;obtain⟨_,t1,_⟩:=hS1.cells;have HR:=aA (HSP.out.store hb1 hbl hxN);have HX:Hid (yE.Sl w1 (.slice x.2.1 x.2.2.1 x.2.2.2) (es.set 0 (key,.empty,(kd es 0:Int)))):=hu.sl;clear hS1;go_wp2;rw[dG hxk];go_meet;rw[HKK.out];obtain⟨⟨A1,q1,q2⟩,q3⟩:=HR.out;exact⟨⟨A1,q1,q2⟩,q3,HX.out.frm (eF w1 A.ga b x) fun g cs hg=>hg.type_ne (HSP.out.below hb1).v.nds.arr (by decide)⟩
  ·have hk':Op.bytesLess key.toList (ky es 0).toList=false:=Bool.eq_false_iff.2 hk
   have HKK:Hid (lowK es key=es):=by show lowK es key=_;rw[HK.out,if_neg hk]
   rw[hk'];clear hk HSW hk';go_wp2_with fail;go_meet;rw[HKK.out];refine⟨⟨A,HSP.out.sub (fun x d' hx=>?_) rfl rfl rfl rfl rfl,SaS.refl _⟩,Frm.refl _ _,HSL.out⟩;have hx':upd f.nodes b (some (2,es)) x=some d':=hx;by_cases e:x=b
   ·rw[e,aD]at hx';rw[e,hes];exact hx'
   ·rw[aC _ _ e]at hx';exact hx'
 case rest=>
  obtain⟨⟨A1,hS1,hA1⟩,hF1,hsl1⟩:=hcut;have hes1:(setN f b (2,lowK es key)).nodes b=some (2,lowK es key):=aD _ _ _;have hl1:(lowK es key).length=es.length:=cH es key;obtain⟨_,q1,hnr1,hne1⟩:=p1.inner wk1;rw[hes1]at q1;cases q1;have hrt1:(setN f b (2,lowK es key)).roots.length≤16:=h16;have hcl1:(setN f b (2,lowK es key)).cur.length=f.cur.length:=rfl;have hE1:=fun b' d' (hd':(setN f b (2,lowK es key)).nodes b'=some d')=>(by have:=wk1.ent hd';omega:d'.2.length≤10);generalize lowK es key=es1 at *;generalize setN f b (2,es1)=f1 at *;have HFOR:=aA (rN hnr1.srt key);have hil:=eE key hne1;obtain⟨v1,_⟩:=hV1.inner wk1.ic hes1 hil;obtain⟨va,vc,rfl⟩:=hsl1.len;obtain⟨g1,o1,cc1,he1,hg1,hcell1⟩:=dZ hsl1 (by omega);cases he1;have hfor:=uW (.slice (some ⟨g1,o1,none⟩) es1.length vc) es1 key wc hsl1 (by omega);rw[HFOR.out]at hfor;have hl10:es1.length≤5:=by omega
  have HL1:=aA (aI hl1 hcl1);clear hl1 hcl1;generalize bK es1 key=i at *;obtain⟨x0,x1,x2⟩:=hcell1 wc i rfl hil;rw[v1]at x0 x1 x2;have hilI:(i:Int) <(es1.length:Int):=by omega
  have HSH:=aA (gU wk1.ic hE1 hV1 wc S A1 hS1 hrt1 b i es1 hes1 hil);have HPA':=HPA;have HSD:Hid (∀g c,stepDown f b key=some (g,c)→∃P' lo' hi',Wk g t H∧aN g t H P' c h lo' hi'∧loR lo' key∧hiR hi' key∧sz g.nodes c<5∧aW f g):=fun g c q=>by
   obtain⟨P',lo',hi',k1,k2,k3,k4,k5,_,k6⟩:=wk.stepDown p HL.out.1 HL.out.2 h5 q;exact⟨P',lo',hi',k1,k2,k3,k4,k5,k6⟩
  have HFR:=aA hF1;have HA1:=aA hA1;clear HSW v0 v1 hV HK HQ HB hF1 hA1 hcell1;go_wp2_with fail;refine hfor.mono ?_;rintro r w2 ⟨rfl,rfl⟩;go_wp2_with fail;refine HSH.out.mono ?_;intro r w3 hz;obtain⟨hF3,hzn,hzy⟩:=hz;cases hsh:shadow f1 (.ent b i)with
  | none=>
   obtain rfl:=hzn hsh;have HP:Hid (PA=none):=by show PA=none;rw[HPA.out];rw[hsh]
   clear hzn hzy hsh;go_wp2;go_ret;rw[HP.out];exact⟨fun _=>⟨rfl,HFR.out.trans (by have:=hF3;rw[HA1.out.ga]at this;exact this)⟩,fun g q=>by cases q⟩
  | some gc=>
   obtain⟨g,c⟩:=gc;obtain⟨rfl,A3,f3,hS3,hA3,hlf,hfin⟩:=hzy g c hsh;obtain⟨wk2,_,p3,⟨es2,m1,m2,m3,m4⟩,m5,m6,m7,_,m9⟩:=wk1.shadow_ent p1 hes1 hil hsh;have hV2:=hV1.shadow_ent wk1.ic hes1 hil hsh;rw[hsh]at HPA HSE;obtain⟨es',hes'⟩:=eZ (es1.set i (ky es1 i,.empty,(c:Int)));rw[hes']at hfin;have hm2:g.nodes b=some (2,es'):=by
    have:=hfin.sub b _ m1
    have e:(setN f3 b (2,es')).nodes b=some (2,es'):=aD _ _ _;rw[e]at this;rw[m1];exact this.symm
   obtain⟨⟨k,ces⟩,hdc⟩:=wk2.ic.live (x:=c) (by rw[m6];omega);have hcl:=wk2.ent hdc;have hel:=wk2.ent hm2;simp only at hcl hel;have hbl3:b<f3.cur.length:=by rw[hlf,HL1.out.2];exact hbl
   have hsl3:yE.Sl w3 (.slice (some ⟨g1,o1,none⟩) es1.length vc) es1:=hsl1.frm hF3 fun g cs hg=>hg.type_ne hS1.v.nds.arr (by decide);obtain⟨y0,y1,y2⟩:w3.cell? ⟨g1,o1+i*3,none⟩=some (.string (ky es1 i))∧w3.cell? ⟨g1,o1+i*3+1,none⟩=some (.string .empty)∧w3.cell? ⟨g1,o1+i*3+2,none⟩=some (.int .i64 (kd es1 i)):=by
    have hne:g1≠A1.ga:=by
     rcases hsl1 with⟨q,_⟩ | ⟨g',o',cap',xs,q,q1,_⟩
     ·cases q
     ·cases q;exact q1.type_ne hS1.v.nds.arr (by decide)
    have hw:∀k,w3.cell? ⟨g1,k,none⟩=w2.cell? ⟨g1,k,none⟩:=fun k=>by simp[World.cell?,hF3.block g1 hg1 hne]
    exact⟨(hw _).trans x0,(hw _).trans x1,(hw _).trans x2⟩
   have HSWP:Hid (Calls Tryz.prog 94 #[.slice (some ⟨g1,o1,none⟩) es1.length vc,.int .i64 i,.agg #[.string (ky es1 i),.string .empty,.int .i64 c]] w3 fun r w'=>∃u,r=.returned u∧yE.Own w3.heap.size w' u es'∧Bl w3 w'):=by
    rw[←hes'];exact eR _ es1 i (ky es1 i,ByteArray.empty,(c:Int)) w3 hsl3 hil (by omega)
   have hc0:¬((c:Int)<0):=by omega
   have HEL:Hid (es'.length=es1.length):=by show es'.length=_;rw[←hes',List.length_set]
   have HFR3:Hid (Frm (fun k=>k=A.ga) w w3):=HFR.out.trans (by have:=hF3;rw[HA1.out.ga]at this;exact this);have HA3:Hid (SaS A A3):=HA1.out.trans hA3;have HRT:Hid (g.roots.length≤16):=by show g.roots.length≤16;rw[m9.len];exact hrt1
   have HGL:Hid (g.cur.length=f3.cur.length):=hfin.len;clear hzn hzy hsl1 hS1 hes' m1 m3 m4 m5 m7 m9 hE1 hfor HSH hF3 hA3 hlf x0 x1 x2 hsl3;go_wp2_with fail;refine HSWP.out.mono ?_;rintro r w4 ⟨u,rfl,hu,hb4⟩;obtain⟨x,rfl,hxk,hxN⟩:=hu.nv 2;have hS4:=hS3.below hb4;obtain⟨k0,k1,hk0,hk1,hz0,hz1,hbI3⟩:=hS4.wr hbl3;obtain⟨_,t1,_⟩:=hS4.cells;obtain⟨⟨A5,hS5,hA5⟩,hF5⟩:=hS3.fin hb4 hbl3 hxN hfin;have hsl5:yE.Sl (set2 w4 A3.ga b x) (.slice x.2.1 x.2.2.1 x.2.2.2) es':=hu.sl.frm (eF w4 A3.ga b x) fun g cs hg=>hg.type_ne hS4.v.nds.arr (by decide);have HF5:Hid (Frm (fun k=>k=A.ga) w (set2 w4 A3.ga b x)):=HFR3.out.trans (hF5.wide fun k _ e=>e.trans HA3.out.ga);have HA5:Hid (SaS A A5):=HA3.out.trans hA5;have HX5:=aA hS5;have hw5:=dG (w:=w4) (g:=A3.ga) (q:=b) hxk;obtain⟨w5,hww⟩:=eZ (set2 w4 A3.ga b x);rw[hww]at hS5 hsl5 HF5 HX5 hw5;obtain⟨_,t5,_⟩:=hS5.cells;obtain⟨ac,cpc,hslc,hcA,_,d0,d1,hcpc⟩:=hS5.v.nds.at hdc;simp only at hslc d0 d1 hcpc;have hcI:(c:Int) <(A5.ns.length:Int):=by omega
   clear hS4 hb4 hF5 hA5 hxN hu hS3 hww hS5;go_upto_if 142 with fail
   clear hw5;by_cases hf5:ces.length=5
   ·have hfb:((ces.length:Int) == 5)=true:=by rw[hf5];rfl
    have H5:=aA hf5;rw[hfb];clear hf5 hfb;have hE2:=fun b' d' (hd':g.nodes b'=some d')=>(by have:=wk2.ent hd';omega:d'.2.length≤10);have HT:=aA (mZ g);have HTK:=aA (mP wk2.ic (wk2.ic.counts HRT.out hE2) hE2 w5 S A5 HX5.out (by have:=HRT.out;omega) (-1));clear hE2 hslc;go_wp2_with fail;refine HTK.out.mono ?_;rintro r w6 ⟨rfl,hb6⟩;rw[HT.out];rw[aE hdc,aE hm2]at HPA;simp only at HPA;rw[if_pos H5.out]at HPA;by_cases hlw:aF g=0
    ·rw[if_pos hlw]
     rw[if_pos hlw]at HPA;have HP:Hid (PA=none):=HPA.out;clear hlw HPA;go_wp2;go_ret;rw[HP.out];exact⟨fun _=>⟨rfl,HF5.out.trans (Frm.of_below hb6)⟩,fun g q=>by cases q⟩
    ·rw[if_neg hlw]
     rw[if_neg hlw]at HPA;obtain⟨l1,l2,l3,l4⟩:=aQ hlw;have HSD2:Hid (stepDown f b key=some (splitF g b es' i c k ces 3 (aF g) (ky ces 3),if kl key (ky ces 3)=true then c else aF g)):=by
      show stepDown f b key=_
      rw[HSE.out,aE hdc,aE hm2];exact(if_pos H5.out).trans (if_neg hlw)
     have hPA:PA=putAt h (splitF g b es' i c k ces 3 (aF g) (ky ces 3)) (if kl key (ky ces 3)=true then c else aF g) key val:=HPA.out;have HPB:=aA hPA;obtain⟨P',lo',hi',k1,k2,k3,k4,k5,k6⟩:=HSD.out _ _ HSD2.out;have hVs:VE (splitF g b es' i c k ces 3 (aF g) (ky ces 3)):=hV2.splitF b (hV2 b _ hm2) i c k (hV2 c _ hdc) 3 (aF g) (ky ces 3);have hcq:c≠aF g:=fun e=>by rw[e]at m6;omega
     have hbq:b≠aF g:=fun e=>by have:=wk2.ic.cu_pos hm2;rw[e]at this;omega
     have hRs:(splitF g b es' i c k ces 3 (aF g) (ky ces 3)).roots.length≤16:=HRT.out;have hX6:=HX5.out.below hb6;have HHF:=aA (sE w6 S A5 hX6 c (aF g) k ces hdc H5.out (wk2.ic.lt hdc) l2 hcq);have hsl6:=hsl5.below hb6;have hFin:Fin (setN (setN g (aF g) (k,ces.drop 3)) c (k,ces.take 3)) (splitF g b es' i c k ces 3 (aF g) (ky ces 3)) b (2,insE es' (i+1) (ky ces 3,.empty,(aF g:Int))):=by
      refine⟨fun z d' hz=>?_,by simp[splitF,setN,takeAt],rfl,rfl,rfl,rfl⟩;have hz':upd (upd (upd g.nodes c (some (k,ces.take 3))) (aF g) (some (k,ces.drop 3))) b (some (2,insE es' (i+1) (ky ces 3,.empty,(aF g:Int)))) z=some d':=hz;show upd (upd (upd g.nodes (aF g) (some (k,ces.drop 3))) c (some (k,ces.take 3))) b _ z=some d'
      by_cases e1:z=b
      ·rw[e1,aD]at hz' ⊢;exact hz'
      ·rw[aC _ _ e1]at hz' ⊢
       by_cases e2:z=c
       ·rw[e2,aC _ _ hcq,aD]at hz'
        rw[e2,aD];exact hz'
       ·rw[aC _ _ e2]
        by_cases e3:z=aF g
        ·rw[e3,aD]at hz' ⊢;exact hz'
        ·rw[aC _ _ e3,aC _ _ e2]at hz'
         rw[aC _ _ e3];exact hz'
     have hq7:(setN (setN g (aF g) (k,ces.drop 3)) c (k,ces.take 3)).nodes (aF g)=some (k,ces.drop 3):=by
      show upd (upd g.nodes (aF g) _) c _ (aF g)=_
      rw[aC _ _ (Ne.symm hcq),aD]
     have hl7:(setN (setN g (aF g) (k,ces.drop 3)) c (k,ces.take 3)).cur.length=g.cur.length:=rfl;have hdr0:ky (ces.drop 3) 0=ky ces 3:=by unfold ky;rw[eU]
     have hdl:(ces.drop 3).length=2:=by rw[List.length_drop,H5.out]
     have hbg:b<g.cur.length:=wk2.ic.lt hm2;generalize setN (setN g (aF g) (k,ces.drop 3)) c (k,ces.take 3)=g7 at *;generalize splitF g b es' i c k ces 3 (aF g) (ky ces 3)=gs at *;generalize ces.drop 3=dr at *;generalize ky ces 3=first at *
     generalize aF g=q at *;have hi1:i+1≤es'.length:=by rw[HEL.out];exact hil
     clear hPA HPA hlw;go_wp2_with fail;refine HHF.out.mono ?_;rintro r w7 ⟨rfl,⟨⟨A7,hS7,hA7⟩,hF7⟩⟩;obtain⟨_,t7,_⟩:=hS7.cells;obtain⟨aq,cpq,hslq,hqA,_,e0',e1',_⟩:=hS7.v.nds.at hq7;simp only at hslq e0' e1';obtain⟨gq,oq,cq',heq,hgq,hcq7⟩:=dZ hslq (by omega);cases heq;obtain⟨f0,_,_⟩:=hcq7 w7 0 rfl (by omega);have hff:(dr.getD 0 e0).1=first:=hdr0
     rw[hff]at f0;simp only[Nat.zero_mul,Nat.add_zero]at f0;have hdrI:(0:Int) <(dr.length:Int):=by omega
     have hqI:(q:Int) <(A7.ns.length:Int):=by omega
     have hsl7:yE.Sl w7 (.slice x.2.1 x.2.2.1 x.2.2.2) es':=hsl6.frm hF7 fun g cs hg=>hg.type_ne hX6.v.nds.arr (by decide);have hbl7:b<g7.cur.length:=by rw[hl7];exact hbg
     obtain⟨_,_,_,_,_,_,hbI7⟩:=hS7.wr hbl7;have hSg7:S≠A7.ga:=hS7.box.type_ne hS7.v.nds.arr (by decide);obtain⟨i1,hi1e⟩:=eZ (i+1);have hwr:IntKind.i64.wrap ((i:Int)+1)=(i1:Int):=(IntWalk.i64_in _ ⟨by omega,by omega⟩).trans (by omega);rw[hi1e]at hFin hi1;have HINS:=aA (hS7.inserted (.slice x.2.1 x.2.2.1 x.2.2.2) es' i1 (first,.empty,(q:Int)) hsl7 hi1 (by omega) 2 hbl7);have HF7:Hid (Frm (fun k=>k=A.ga) w w7):=(HF5.out.trans (Frm.of_below hb6)).trans (hF7.wide fun k _ e=>e.trans HA5.out.ga);have HA7:Hid (SaS A A7):=HA5.out.trans hA7;have HX7:=aA hS7;clear hsl7 hslq hcq7 hff hF7 hA7 hX6 hsl6 hdl hl7 hdr0 hi1e;go_wp2;go_region_held3 (fun W=>W.cell? ⟨S,1,none⟩=some (.slice (some ⟨A7.ga,0,none⟩) A7.ns.length (A7.ns.length+A7.nj.length))) (first | assumption | go_keep | exact bV hSg7 hX1) ((go_at_call 109;refine HINS.out.mono ?_;rintro r w8 ⟨y,rfl,hyk,hyN,hb8,hX1,kk0,kk1,hk0,hk1,hz0,hz1⟩));rw[dG hyk];obtain⟨⟨A9,hS9,hA9⟩,hF9⟩:=HX7.out.fin hb8 hbl7 hyN hFin;have HF9:Hid (Frm (fun k=>k=A.ga) w (set2 w8 A7.ga b y)):=HF7.out.trans (hF9.wide fun k _ e=>e.trans HA7.out.ga);have HA9:Hid (SaS A A9):=HA7.out.trans hA9;have HX9:=aA hS9;generalize set2 w8 A7.ga b y=w9 at *;clear hX1 hk0 hk1 hz0 hz1 hF9 hA9 hS9 hyN hb8;by_cases hkf:kl key first=true
     ·have q1:Op.bytesLess key.toList first.toList=true:=hkf
      have q2:Op.bytesLess first.toList key.toList=false:=fH (a:=key) (b:=first) hkf
      have q3:(key.toList == first.toList)=false:=by
       rw[beq_eq_false_iff_ne];intro e;rw[e,oX]at q1;cases q1
      rw[if_pos hkf]at HPB k2 k5;have HIH:=aA (ih gs c P' lo' hi' k1 k2 k3 k4 k5 hVs hRs w9 S A9 HX9.out);clear hkf k1 k2 k3 k4 k5;go_wp2_with fail;refine HIH.out.mono ?_;intro e w6 hz;obtain⟨v,rfl⟩:=hz.ret;have HZ:Hid (ZpP w S A (PA.map Prod.fst) (.returned (.bool v)) w6):=by
       show ZpP _ _ _ _ _ _
       rw[HPB.out];exact ZpP.trans HF9.out HA9.out hz
      clear hz;go_wp2;go_ret;exact HZ.out
     ·have q1:Op.bytesLess key.toList first.toList=false:=Bool.eq_false_iff.2 hkf
      rw[if_neg hkf]at HPB k2 k5;have HIH:=aA (ih gs q P' lo' hi' k1 k2 k3 k4 k5 hVs hRs w9 S A9 HX9.out);clear k1 k2 k3 k4 k5;have hq9:(Op.bytesLess first.toList key.toList=true∨(key.toList == first.toList)=true):=by
       rcases kV (a:=key) (b:=first) q1 with e | e
       ·exact .inr (by rw[e];exact beq_self_eq_true _)
       ·exact .inl e
      clear hkf;rcases hq9 with q2 | q3
      case' inl=>skip
      case' inr=>
       have q2:Op.bytesLess first.toList key.toList=false:=by
        have:key.toList=first.toList:=by simpa using q3
        rw[this];exact oX _
      all_goals (
       go_wp2_with fail
       refine HIH.out.mono ?_;intro e w6 hz;obtain⟨v,rfl⟩:=hz.ret;have HZ:Hid (ZpP w S A (PA.map Prod.fst) (.returned (.bool v)) w6):=by
        show ZpP _ _ _ _ _ _
        rw[HPB.out];exact ZpP.trans HF9.out HA9.out hz
       clear hz;go_wp2;go_ret;exact HZ.out)
   ·have hfb:((ces.length:Int) == 5)=false:=by rw[beq_eq_false_iff_ne];omega
    have HSD2:Hid (stepDown f b key=some (g,c)):=by
     show stepDown f b key=_
     rw[HSE.out,aE hdc];exact if_neg hf5
    rw[aE hdc]at HPA;simp only at HPA;rw[if_neg hf5]at HPA;obtain⟨P',lo',hi',k1,k2,k3,k4,k5,_⟩:=HSD.out g c HSD2.out;have HIH:=aA (ih g c P' lo' hi' k1 k2 k3 k4 k5 hV2 HRT.out w5 S A5 HX5.out);rw[hfb];clear hf5 hfb hslc k1 k2 k3 k4 k5;go_wp2_with fail;refine HIH.out.mono ?_;intro e w6 hz;obtain⟨v,rfl⟩:=hz.ret;have HZ:Hid (ZpP w S A (PA.map Prod.fst) (.returned (.bool v)) w6):=by
     show ZpP _ _ _ _ _ _
     rw[HPA.out];exact ZpP.trans HF5.out HA5.out hz
    clear hz;go_wp2;go_ret;exact HZ.out
