import Derived.Test.YtmpagpeenjddgaaGreatHq6
set_option maxHeartbeats 9999999
set_option maxRecDepth 99999
set_option linter.all false
namespace Go.Proofs.YtmpagpeenjddgaaGreat
open Go.RowKit Fo
variable{A:Adr}{K:Int}{junk:List E3}{P b q:Nat}{ρ:Nat->Nat}{d:Nd}{a:Option Nat}{w:World}{f:fZ}
theorem dE{W:World}{x:Nat}(h:W.heap[x]?=w.heap[x]?)(i:Nat):W.cell? ⟨x,i,none⟩=w.cell? ⟨x,i,none⟩:=by simp[World.cell?,h]
theorem St.bg{J:List aR}(h:St w ρ P A f J){t:Nat}(ht:t<f.r.length)(c:0<=(f.r.getD t (0,0)).2):w.cell? ⟨A.ra,t*2+1,none⟩=some (.int .i64 (aB f t))/\w.frozen? ⟨A.ra,t*2+1,none⟩=false:=by
 obtain⟨_,_,_,a,_⟩:=id h;refine⟨?_,a.hr.frozen _⟩;rw[a.hr.cell,(lN (f.r++A.rj) (i:=t) (by simp;omega)).2];have b:(f.r++A.rj).getD t (0,0)=f.r.getD t (0,0):=by rw[gD,List.getElem?_append_left ht,<-gD]
 rw[b];simp only[aB];rw[show(((f.r.getD t (0,0)).2.toNat:Nat):Int)=(f.r.getD t (0,0)).2 by omega]
theorem aM.first(h:aM w q d a junk){g:Nat}(b:a=Option.some g){n:Nat}(hn:d.2.length=n)(c:0<n):w.cell? ⟨q,1,none⟩=Option.some (.slice (Option.some ⟨g,0,none⟩) n (n+junk.length))/\w.cell? ⟨g,0,none⟩=Option.some (.string (ky d.2 0)):=by
 subst b;refine⟨by rw[h.box.cell];simp[adr,hn],?_⟩;have:=(bJ (h.arr g rfl).1 (i:=0) (by simp;omega)).1;rw[gD,List.getElem?_append_left (by omega),<-gD]at this;simpa [ky] using this
theorem aM.bd(h:aM w q d a junk)(b:0<d.2.length):∃g,a=Option.some g:=by
 obtain⟨g,e,_⟩:=h.some b;exact⟨g,e⟩
theorem jC(W:World)(k:ByteArray)(c:Int):(Instr.build 130 #[(0,.string k),(2,.int .i64 c)]).run Tryz.prog W=.ok (.agg #[.string k,.string .empty,.int .i64 c]) W:=by kernel_rfl
theorem aMG(W:World)(a c b d:ByteArray)(c0 c1:Int):(Instr.buildSlice 94 2 #[(0,.agg #[.string a,.string c,.int .i64 c0]),(1,.agg #[.string b,.string d,.int .i64 c1])]).run Tryz.prog W=.ok (.slice (some ⟨W.heap.size,0,none⟩) 2 2) (W.alloc (.cells #[.string a,.string c,.int .i64 c0,.string b,.string d,.int .i64 c1] 130)):=by kernel_rfl
structure GrS(q g q1 g1:Nat)(p:Addr)(n c n1 c1:Nat)(k0 k1:ByteArray)(r:Nat)(w:World):Prop where
 a1:w.cell? ⟨q,1,none⟩=some (.slice (some ⟨g,0,none⟩) 3 c)
 a2:w.cell? ⟨g,0,none⟩=some (.string k0)
 a3:w.cell? p=some (.int .i64 r)
 a4:w.cell? ⟨q1,1,none⟩=some (.slice (some ⟨g1,0,none⟩) 2 c1)
 a5:w.cell? ⟨g1,0,none⟩=some (.string k1)
structure GrP(w:World)(ρ:Nat->Nat)(P:Nat)(A:Adr)(f:fZ)(J:List aR)(t r:Nat)(K:Int)(e:Ending)(w':World):Prop where
 no:bL f t r=none->Pk 2 w ρ P f J e w'
 yes:∀g top,bL f t r=some (g,top)->∃ρ' A' J' q,e=.returned (.pointer (some ⟨q,0,none⟩))/\A'.φ top=some q/\Dn 2 (fun _=>True) w ρ P A f J w' ρ' A' g J'/\Tch top J'/\Sz K g
theorem zI(w:World)(ρ:Nat->Nat)(P:Nat)(A:Adr)(f:fZ)(J:List aR)(t r:Nat)(k:Int)(es:List E3)(h:St w ρ P A f J)(hI:IC f)(hz:Sz K f)(uq:1<=K)(hK:K<=800000)(lm:J.length<=700000)(ht:t<f.r.length)(hr:aB f t=r)(hd:f.n r=some (k,es))(h5:es.length=5)(sf:Tch r J):
  Calls Tryz.prog 99 #[.pointer (some ⟨P,0,none⟩),.pointer (some ⟨A.ra,t*2+1,none⟩)] w (GrP w ρ P A f J t r K):=by
 have uf:r<f.c.length:=hz.lt r _ hd;have h0:0<=(f.r.getD t (0,0)).2:=(hI.rb _ (aP ht)).1;obtain⟨AH,-⟩:=h.bg ht h0;rw[hr]at AH;obtain⟨ja,jp,jj,hR,hJ⟩:=id h;have m3:=hR.cells.m3;obtain⟨q,junk,hφ,yg,ye,hN⟩:=h.ah hd;obtain⟨g,hg⟩:=hN.bd (by simp;omega);rw[hg]at hN;have g8:∀n,(Instr.lookup 64 (.map (some A.m)) (.int .i64 r) false).run Tryz.prog (w.drewN n)=.ok (.pointer (some ⟨q,0,none⟩)) (w.drewN n):=fun n=>by
  have:=(hR.hm.of (w':=w.drewN n) rfl).lookup r (by have:=hz.al;omega)
  rw[hφ]at this;simpa only[eV,Option.map_some] using this
 have H0:=jC;have lq:=aMG;have sv:=gY;have G:=aA (aI hr h5);clear hr h5;go_enter Tryz.func99,Tryz.ntmps99;go_wp2;go_quiet (fail);clear g8 m3 AH;go_wp2_with fail;refine(oX q g k es junk _ (hN.below (below_drewN _ _)) (by have:=G.out.2;omega) (by have:=G.out.2;omega)).mono ?_;rintro e w1 ⟨l,a1,j1,junk1,rfl,k1,k2,k3,k4,kF⟩;have kF':Frm (fun x=>x=q\/A.α r=some x) w w1:=(Frm.aa (below_drewN _ _)).trans (kF.wide fun x _ e=>by rcases e with e | e;exact .inl e;right;rw[hg,e]);have e53:es.length-2=3:=by have:=G.out.2;omega
 rw[e53]at k3 k4;obtain⟨cg,Do⟩:=h.aw hd hφ kF' (by rw[hg];exact k4);have Dc:w.heap.size<=l:=k1;have Fy:∀x,w.heap.size<=x->ρ x=0:=fun x y=>Nat.eq_zero_of_not_pos fun q=>absurd (hR.own x (by omega)) (by omega);have im:Sz K (setN f r (k,es.take 3)):=hz.setN uf (by simp;omega);have pr:JS 0 f J (setN f r (k,es.take 3)) J:=JS.setN _ sf;obtain⟨g1,li⟩:=k3.bd (by have:=G.out.2;simp;omega);subst li;have k2':w.heap.size<=g1:=k2 g1 rfl;have Kq:Fo.look f r=(k,es):=aE hd;go_wp2_with fail;refine(pC w1 ρ P A _ J l (k,es.drop 3) (some g1) j1 cg im (by omega) (by omega) k3 (Fy l Dc) (fun x e=>by cases e;exact Fy g1 k2')).mono ?_;intro e v M;by_cases hl:aF f=0
 ·obtain⟨rfl,di⟩:=M.no hl
  have Q:bL f t r=none:=by unfold bL;rw[if_pos hl]
  exact⟨rfl,fun _=>⟨rfl,ρ,A,_,J,cg.below di,Do.trans (Mv.aa di) (fun _ _ e=>e),pr.up (by omega)⟩,fun g c H=>by rw[Q]at H;cases H⟩
 ·obtain⟨he,ρ2,D,mf,-⟩:=M.yes hl
  have BT:aF (setN f r (k,es.take 3))=aF f:=rfl;rw[BT]at he D;subst he;obtain⟨l1,l2,l3,l4⟩:=aO hl;have dw:f.n (aF f)=none:=(hI.a8.dead _).2 l3;have V:Hid (bL f t r=if aF (takeAt (setN f r (k,es.take 3)) (aF f) (k,es.drop 3))=0 then none else some (growF f t r k es 3 (aF f) (aF (takeAt (setN f r (k,es.take 3)) (aF f) (k,es.drop 3))) (ky es 0) (ky es 3),aF (takeAt (setN f r (k,es.take 3)) (aF f) (k,es.drop 3)))):=by
   show bL f t r=_
   unfold bL;rw[if_neg hl,Kq]
  generalize aF f=z at *;have Z:r≠z:=fun e=>by rw[e,dw]at hd;cases hd
  have sn:Mv (fun _=>False) w ρ v ρ2:=((Do.up (Y:=fun x=>x=l\/some g1=some x) (fun _ _ e=>e.elim)).trans mf (fun _ _ e=>e)).up fun x y e=>by
   rcases e with e | e
   ·omega
   ·cases e;omega
  have T:Sz K (takeAt (setN f r (k,es.take 3)) z (k,es.drop 3)):=im.takeAt uq l2 (by simp;omega);have ut:(takeAt (setN f r (k,es.take 3)) z (k,es.drop 3)).n r=some (k,es.take 3):=by
   show upd (upd f.n r _) z _ r=_
   rw[aC _ _ Z,aD]
  have NP:(takeAt (setN f r (k,es.take 3)) z (k,es.drop 3)).n z=some (k,es.drop 3):=aD _ _ _;obtain⟨jo,KZ⟩:=D.bg (t:=t) ht h0;rw[show aB (takeAt (setN f r (k,es.take 3)) z (k,es.drop 3)) t=r from G.out.1,show(dA A z l (some g1)).ra=A.ra from rfl]at jo;obtain⟨q',E,u1,-,-,u2⟩:=D.ah ut;have u3:(dA A z l (some g1)).φ r=some q:=by show upd A.φ z _ r=_;rw[aC _ _ Z];exact hφ
  rw[u3]at u1;cases u1;have u4:(dA A z l (some g1)).α r=some g:=by show upd A.α z _ r=_;rw[aC _ _ Z];exact hg
  obtain⟨q1',F,v1,-,-,S⟩:=D.ah NP;have v3:(dA A z l (some g1)).φ z=some l:=aD _ _ _;rw[v3]at v1;cases v1;have v4:(dA A z l (some g1)).α z=some g1:=aD _ _ _;have f1:=u2.first u4 (n:=3) (by have:=G.out.2;simp;omega) (by omega);have f2:=S.first v4 (n:=2) (by have:=G.out.2;simp;omega) (by omega);have ek0:ky (es.take 3) 0=ky es 0:=by unfold ky;simp[gD,List.getElem?_take]
  have ek1:ky (es.drop 3) 0=ky es 3:=by unfold ky;simp[gD]
  rw[ek0]at f1;rw[ek1]at f2;have ak:∀x,(x=q\/x=g\/x=A.ra\/x=l\/x=g1)->x<v.heap.size:=fun x y=>by
   obtain⟨_,_,_,iy,_⟩:=id D;rcases y with e | e | e | e | e<;>rw[e]
   ·exact u2.box.lt
   ·exact(u2.arr g u4).1.lt
   ·exact iy.hr.lt
   ·exact S.box.lt
   ·exact(S.arr g1 v4).1.lt
  have N:Hid (∀W:World,(∀x,(x=q\/x=g\/x=A.ra\/x=l\/x=g1)->W.heap[x]?=v.heap[x]?)->GrS q g l g1 ⟨A.ra,t*2+1,none⟩ 3 (3+E.length) 2 (2+F.length) (ky es 0) (ky es 3) r W):=fun W hW=>
   ⟨(dE (hW _ (by simp)) _).trans f1.1,(dE (hW _ (by simp)) _).trans f1.2,(dE (hW _ (by simp)) _).trans jo,(dE (hW _ (by simp)) _).trans f2.1,(dE (hW _ (by simp)) _).trans f2.2⟩
  have m:=N.out v.drew (fun _ _=>rfl);obtain⟨a,CF⟩:∃a,a=takeAt (setN f r (k,es.take 3)) z (k,es.drop 3):=⟨_,rfl⟩;have sj:=aA CF;have pt:JS 1 f J a (J++[(z,cu (setN f r (k,es.take 3)) z,(setN f r (k,es.take 3)).n z)]):=by rw[CF];exact(pr.trans (JS.save l2)).trans (JS.takeAt _ Tch.saved)
  rw[<-CF]at D T V;generalize J++[(z,cu (setN f r (k,es.take 3)) z,(setN f r (k,es.take 3)).n z)]=O at *;obtain⟨c2,Af⟩:∃c2,c2=3+E.length:=⟨_,rfl⟩;obtain⟨c3,KC⟩:∃c3,c3=2+F.length:=⟨_,rfl⟩;rw[<-Af,<-KC]at N m;obtain⟨o,TH⟩:∃o,o=ky es 0:=⟨_,rfl⟩;obtain⟨s,Pc⟩:∃s,s=ky es 3:=⟨_,rfl⟩;rw[<-TH,<-Pc]at N m V;have HL:=aA ak;clear CF Af KC TH Pc f1 f2 jo u2 S ut NP M mf cg Do k3 k4 kF kF' hN ak KZ ek0 ek1 u3 v3 e53;go_wp2;refine bA (GrS q g l g1 ⟨A.ra,t*2+1,none⟩ 3 c2 2 c3 o s r) 27 (by kernel_rfl) ?_;refine tJ 0 21 (.pointer (some ⟨A.ra,t*2+1,none⟩)) rfl m ?_;refine tJ 1 22 (.pointer (some ⟨P,0,none⟩)) rfl m ?_;refine tJ 2 23 (.pointer (some ⟨q,0,none⟩)) rfl m ?_;refine tJ 3 24 (.pointer (some ⟨q,0,none⟩)) rfl m ?_;refine tJ 4 25 (.pointer (some ⟨q,1,none⟩)) rfl m ?_;refine tJ 5 26 (.slice (some ⟨g,0,none⟩) 3 c2) rfl m ?_;refine tJ 6 27 (.pointer (some ⟨g,0,none⟩)) rfl m ?_;refine tJ 7 28 (.pointer (some ⟨g,0,none⟩)) rfl m ?_;refine tJ 8 29 (.string o) rfl m ?_;refine tJ 9 30 (.pointer (some ⟨A.ra,t*2+1,none⟩)) rfl m ?_;refine tJ 10 31 (.pointer (some ⟨A.ra,t*2+1,none⟩)) rfl m ?_;refine tJ 11 32 (.int .i64 r) rfl m ?_;refine tJ 12 33 (.agg #[.string o,.string .empty,.int .i64 r]) rfl m ?_;refine tJ 13 34 (.pointer (some ⟨l,0,none⟩)) rfl m ?_;refine tJ 14 35 (.pointer (some ⟨l,0,none⟩)) rfl m ?_;refine tJ 15 36 (.pointer (some ⟨l,1,none⟩)) rfl m ?_;refine tJ 16 37 (.slice (some ⟨g1,0,none⟩) 2 c3) rfl m ?_;refine tJ 17 38 (.pointer (some ⟨g1,0,none⟩)) rfl m ?_;refine tJ 18 39 (.pointer (some ⟨g1,0,none⟩)) rfl m ?_;refine tJ 19 40 (.string s) rfl m ?_;refine tJ 20 41 (.int .i64 z) rfl m ?_;refine tJ 21 42 (.agg #[.string s,.string .empty,.int .i64 z]) rfl m ?_;simp only[Act.put,sB,sZ,sS];obtain⟨C,P4⟩:=exH (v.heap.size);refine oE 22 rfl fun K2 u=>?_;go_simp;obtain⟨W3,QM⟩:=exH ((v.alloc (.cells #[.string o,.string .empty,.int .i64 r,.string s,.string .empty,.int .i64 z] 130)).drew);rw[<-QM.out,<-P4.out];have so:IsC W3 C (cC [(o,.empty,(r:Int)),(s,.empty,(z:Int))]) 130:=by rw[QM.out,P4.out];exact(IsC.new v _ _).drew
  have fv:Bl v W3:=by rw[QM.out];exact((bQ v.heap.size v).alloc (nR _) _).drew
  have uz:=N.out W3 fun x y=>fv.block x (HL.out x y);refine u _ _ (fun _=>uz) ?_;clear u K2 m;refine oE 23 rfl fun K2 u=>?_;go_simp;refine u _ _ (fun _=>uz) ?_;clear u K2;refine oE 24 rfl fun K2 u=>?_;go_simp;obtain⟨B,Ow⟩:=exH (W3.heap.size);obtain⟨W4,C5⟩:=exH (W3.alloc (.cells #[.int .i64 2,.slice (some ⟨C,0,none⟩) 2 2] 96));rw[<-C5.out,<-Ow.out];have R:Bl v W4:=by rw[C5.out];exact fv.alloc fv.size _
  have BU:=N.out W4 fun x y=>R.block x (HL.out x y);have EQ:aM W4 B (2,[(o,.empty,(r:Int)),(s,.empty,(z:Int))]) (some C) []:=by
   refine⟨?_,fun x e=>?_,fun e=>(by cases e),by simp[maxLen]⟩
   ·rw[C5.out,Ow.out];exact IsC.new _ _ _
   ·cases e
    refine⟨?_,?_⟩
    ·rw[C5.out];simpa using so.alloc _
    ·rw[Ow.out];exact Nat.ne_of_lt so.lt
  have XD:v.heap.size<=B:=by rw[Ow.out];exact fv.size
  have Wr:v.heap.size<=C:=by rw[P4.out];exact nR _
  refine u _ _ (fun _=>BU) ?_;clear u K2 uz;have ax:=D.below R;have Vg:∀x,v.heap.size<=x->ρ2 x=0:=fun x y=>Nat.eq_zero_of_not_pos fun q=>by
   obtain⟨_,_,_,iy,_⟩:=id D;exact absurd (iy.own x (by omega)) (by omega)
  have Wt:O.length<=700001:=by have:=pt.len;omega
  refine oE 25 rfl fun K2 u=>?_;go_simp;refine(pC W4 ρ2 P (dA A z l (some g1)) a O B _ (some C) [] ax T (by omega) (by omega) EQ (Vg _ XD) (fun x e=>by cases e;exact Vg _ Wr)).mono ?_;intro e I M;by_cases X:aF a=0
  ·obtain⟨rfl,sm⟩:=M.no X
   have Q:bL f t r=none:=by rw[V.out,if_pos X]
   exact⟨rfl,fun _=>⟨rfl,ρ2,_,a,O,ax.below sm,(sn.trans (Mv.aa R) (fun _ _ e=>e)).trans (Mv.aa sm) (fun _ _ e=>e),pt.up (by omega)⟩,fun g c H=>by rw[Q]at H;cases H⟩
  ·obtain⟨rfl,ρ5,de,oa,eu⟩:=M.yes X
   have Q:bL f t r=some (growF f t r k es 3 z (aF a) o s,aF a):=by rw[V.out,if_neg X]
   obtain⟨n1,n2,n3,n4⟩:=aO X;have FV:JS 2 f J (takeAt a (aF a) (2,[(o,.empty,(r:Int)),(s,.empty,(z:Int))])) (O++[(aF a,cu a (aF a),a.n (aF a))]):=(pt.trans (JS.save n2)).trans (JS.takeAt _ Tch.saved);have Jd:Tch (aF a) (O++[(aF a,cu a (aF a),a.n (aF a))]):=Tch.saved;have BD:Sz K (takeAt a (aF a) (2,[(o,.empty,(r:Int)),(s,.empty,(z:Int))])):=T.takeAt uq n2 (by simp);have fu:∀x,x<v.heap.size->ρ2 x≠1->ρ2 x≠6->ρ2 x≠3->ρ2 x≠4->I.heap[x]?=v.heap[x]?:=fun x y e1 e2 e3 e4=>(eu.block x (lL y R.size) (by omega)).trans (R.block x y);generalize O++[(aF a,cu a (aF a),a.n (aF a))]=J5 at *;generalize aF a=j at *;have EP:Mv (fun _=>False) w ρ I ρ5:=(((sn.trans (Mv.aa R) (fun _ _ e=>e)).up (Y:=fun x=>x=B\/some C=some x) (fun _ _ e=>e.elim)).trans oa (fun _ _ e=>e)).up fun x y e=>by
    have:=sn.ae.size
    rcases e with e | e
    ·omega
    ·cases e;omega
   have L:(takeAt a j (2,[(o,.empty,(r:Int)),(s,.empty,(z:Int))])).r=f.r:=by show a.r=_;rw[sj.out];rfl
   obtain⟨El,NY⟩:=de.bg (t:=t) (by rw[L];exact ht) (by rw[L];exact h0);have fx:aB (takeAt a j (2,[(o,.empty,(r:Int)),(s,.empty,(z:Int))])) t=r:=by unfold aB;rw[L];exact G.out.1
   rw[fx,show(dA (dA A z l (some g1)) j B (some C)).ra=A.ra from rfl]at El;rw[show(dA (dA A z l (some g1)) j B (some C)).ra=A.ra from rfl]at NY;have PF:dT (takeAt a j (2,[(o,.empty,(r:Int)),(s,.empty,(z:Int))])) (.root t):=by show t<_;rw[L];exact ht
   obtain⟨lp,Bu⟩:=de.bP PF (p:=⟨A.ra,t*2+1,none⟩) rfl j;have Ic:=BD.setL PF j;have Qh:=FV.trans (JS.setL (.root t) j fun b i e=>(by cases e));have U:setL (takeAt a j (2,[(o,.empty,(r:Int)),(s,.empty,(z:Int))])) (.root t) j=growF f t r k es 3 z j o s:=by rw[sj.out];rfl
   rw[U]at lp Ic Qh;have dq:ρ2 q=cJ r/\ρ2 g=cG r/\ρ2 A.ra=2/\ρ2 l=cJ z/\ρ2 g1=cG z:=by
    obtain⟨_,_,_,iy,_⟩:=id D;obtain⟨x1,y1',z1,z2,z3,-⟩:=D.ah (b:=r) (d:=(k,es.take 3)) (by rw[sj.out];show upd (upd f.n r _) z _ r=_;rw[aC _ _ Z,aD]);obtain⟨x2,y2',v1,S,v3,-⟩:=D.ah (b:=z) (d:=(k,es.drop 3)) (by rw[sj.out];exact aD _ _ _);have u3:(dA A z l (some g1)).φ r=some q:=by show upd A.φ z _ r=_;rw[aC _ _ Z];exact hφ
    rw[u3]at z1;cases z1;rw[show(dA A z l (some g1)).φ z=some l from aD _ _ _]at v1;cases v1;exact⟨z2,z3 g u4,iy.rr,S,v3 g1 v4⟩
   have mn:=N.out I fun x y=>by
    obtain⟨o1,o2,o3,o4,o5⟩:=dq;refine fu x (HL.out x y) ?_ ?_ ?_ ?_<;>(rcases y with e | e | e | e | e<;>rw[e]<;>first | rw[o1] | rw[o2] | rw[o3] | rw[o4] | rw[o5])<;>first | omega | (unfold cJ;omega) | (unfold cG;omega)
   have Ph:(dA (dA A z l (some g1)) j B (some C)).φ j=some B:=aD _ _ _;obtain⟨ja6,jp6,jj6,Dq,Qi⟩:=id lp;have o3:=Dq.cells.m3;rw[show(dA (dA A z l (some g1)) j B (some C)).m=A.m from rfl]at o3;have N5:aB (growF f t r k es 3 z j o s) t=j:=by
    rw[<-U];exact(jS PF j).1
   have N7:(growF f t r k es 3 z j o s).r.length=f.r.length:=by rw[<-U];show(List.set _ _ _).length=_;rw[List.length_set,L]
   have Mw:((growF f t r k es 3 z j o s).r.getD t (0,0)).2=(j:Int):=by
    rw[<-U];show((List.set _ t _).getD t (0,0)).2=_
    rw[bB _ _ _ _ _ (by rw[L];exact ht),if_pos rfl]
   have ZW:(I.setCell ⟨A.ra,t*2+1,none⟩ (.int .i64 (j:Int))).cell? ⟨A.ra,t*2+1,none⟩=some (.int .i64 (j:Int)):=by
    have h6:=(lp.bg (t:=t) (by rw[N7];exact ht) (by rw[Mw];omega)).1;rw[N5]at h6;exact h6
   have YL:∀n,(Instr.lookup 64 (.map (some A.m)) (.int .i64 j) false).run Tryz.prog ((I.setCell ⟨A.ra,t*2+1,none⟩ (.int .i64 (j:Int))).drewN n)=.ok (.pointer (some ⟨B,0,none⟩)) ((I.setCell ⟨A.ra,t*2+1,none⟩ (.int .i64 (j:Int))).drewN n):=fun n=>by
    have:=(Dq.hm.of (w':=(I.setCell ⟨A.ra,t*2+1,none⟩ (.int .i64 (j:Int))).drewN n) rfl).lookup j (by have:=Ic.al;have:=n2;have:=T.al;omega)
    rw[Ph]at this;rw[show(dA (dA A z l (some g1)) j B (some C)).m=A.m from rfl]at this;simpa only[eV,Option.map_some] using this
   have HF:=aA (show Dn 2 (fun _=>True) w ρ P A f J (I.setCell ⟨A.ra,t*2+1,none⟩ (.int .i64 (j:Int))) ρ5 (dA (dA A z l (some g1)) j B (some C)) (growF f t r k es 3 z j o s) J5/\Tch j J5/\Sz K (growF f t r k es 3 z j o s)from⟨⟨lp,EP.trans Bu (fun _ _ e=>e),Qh.up (by omega),⟨rfl,rfl,rfl,rfl,rfl,rfl,rfl,fun _ q=>absurd trivial q,fun _ q=>absurd trivial q⟩⟩,Jd,Ic⟩);have Cc:=aA Q;refine u _ _ (fun _=>mn) ?_;clear u K2 BU Q lp Bu Ic Qh U N5 N7 Mw Dq Qi de oa eu FV Jd BD fu EP L fx PF dq M D ax sn T pt V;refine oE 26 rfl fun K2 u=>?_;go_simp;refine u _ _ (fun _=>mn) ?_;clear u K2;refine oE 27 rfl fun K2 u=>?_;go_simp;refine u _ _ (fun q=>absurd rfl q) ?_;clear u K2;refine aS (by kernel_rfl) ?_ _;go_wp2;go_quiet (fail);go_wp2;go_ret;obtain⟨qz,By,je⟩:=HF.out;refine⟨fun q=>(by rw[Cc.out]at q;cases q),fun g c H=>?_⟩;rw[Cc.out]at H;cases H;exact⟨ρ5,_,J5,B,rfl,Ph,qz.below (below_drewN _ _),By,je⟩
theorem aGN(h:f.n b=some d):setN f b d=f:=by
 have:upd f.n b (some d)=f.n:=funext fun x=>by by_cases e:x=b<;>simp[upd,e,h]
 unfold setN;rw[this]
theorem rE(W:World)(a b:ByteArray)(c0:Int):(Instr.buildSlice 94 1 #[(0,.agg #[.string a,.string b,.int .i64 c0])]).run Tryz.prog W=.ok (.slice (some ⟨W.heap.size,0,none⟩) 1 1) (W.alloc (.cells #[.string a,.string b,.int .i64 c0] 130)):=by kernel_rfl
theorem St.ins{w1:World}{J:List aR}(h:St w ρ P A f J){k:Int}{es ls:List E3}(o:f.n b=some (k,es))(r:A.φ b=some q){u:Value}(y:yC w w1 (A.α b) u ls):
  ∃a',(∃g,a'=some g)/\St (w1.setCell ⟨q,1,none⟩ u) (jL ρ a' b) P (dQ A b a') (setN f b (k,ls)) J/\Mv (fun _=>False) w ρ (w1.setCell ⟨q,1,none⟩ u) (jL ρ a' b)/\(∃c,w1.cell? ⟨q,1,none⟩=some c)/\w1.frozen? ⟨q,1,none⟩=false:=by
 obtain⟨⟨a',a,rfl,i,n,v⟩,hF⟩:=y;obtain⟨D,s,m,B,C,d⟩:=h.ah o;rw[r]at m;cases m;have j:IsC w1 q _ _:=d.box.ae hF (fun e=>(d.arr q e).2 rfl);have l:∀g,a'=some g->g≠q:=fun g e=>by
  rcases(i g e).2 with e' | e'
  ·exact(d.arr g e').2
  ·have:=d.box.lt;omega
 have t:Frm (fun x=>x=q\/A.α b=some x) w (w1.setCell ⟨q,1,none⟩ (.slice (adr a') ls.length (ls.length+a.length))):=(hF.wide fun x _ e=>.inr e).trans (Frm.set w1 (p:=⟨q,1,none⟩) (.inl rfl) _);have z:aM (w1.setCell ⟨q,1,none⟩ (.slice (adr a') ls.length (ls.length+a.length))) q (k,ls) a' a:=by
  refine⟨?_,fun g e=>⟨(i g e).1.set_ne _ (l g e),l g e⟩,fun e=>absurd e n,v⟩;have:=j.set 1 (.slice (adr a') ls.length (ls.length+a.length));simpa using this
 have:=h.node o r t z (fun g e=>(i g e).2)
 refine⟨a',?_,this.1,this.2,⟨_,j.c rfl⟩,j.frozen 1⟩;cases a' with
 | none=>exact absurd rfl n
 | some g=>exact⟨g,rfl⟩
structure DnP(w:World)(ρ:Nat->Nat)(P:Nat)(A:Adr)(f:fZ)(J:List aR)(b:Nat)(key:ByteArray)(K:Int)(e:Ending)(w':World):Prop where
 no:stepDown f b key=none->Pk 13 w ρ P f J e w'
 yes:∀g c,stepDown f b key=some (g,c)->∃ρ' A' J' q,e=.returned (.pointer (some ⟨q,0,none⟩))/\A'.φ c=some q/\Dn 13 (fun _=>True) w ρ P A f J w' ρ' A' g J'/\Tch c J'/\Sz (K+10) g
theorem AdS.top{X:Nat->Prop}{A':Adr}(h:AdS X A A'):AdS (fun _=>True) A A':=h.up fun _ _=>trivial
theorem aAR(w:World)(ρ:Nat->Nat)(P:Nat)(A:Adr)(f:fZ)(J:List aR)(t H:Nat)(Pt:List Nat)(b h:Nat)(lo hi:OB)(key:ByteArray)(q:Nat)(tu:St w ρ P A f J)(hW:Wk f t H)(hp:aN f t H Pt b (h+1) lo hi)(nf:loR lo key)(h5:sz f.n b<5)(hφ:A.φ b=some q)(hz:Sz K f)(uq:1<=K)(hK:K<=700000)(lm:J.length<=600000)(sf:Tch b J):
  Calls Tryz.prog 100 #[.pointer (some ⟨P,0,none⟩),.pointer (some ⟨q,0,none⟩),.string key] w (DnP w ρ P A f J b key K):=by
 obtain⟨es,ah,ue,aw⟩:=hp.inner hW;have h0:0<es.length:=List.length_pos_iff.2 aw;have BD:es.length<5:=by unfold sz at h5;rw[ah]at h5;exact h5
 obtain⟨w1,p1,-⟩:=hW.bu hp ah key nf;have eX:b<f.c.length:=hz.lt b _ ah;obtain⟨q',s,U,yg,ye,V⟩:=tu.ah ah;rw[hφ]at U;cases U;obtain⟨g,hg⟩:=V.bd h0;rw[hg]at V;obtain⟨f1,f2⟩:=V.first rfl rfl h0;simp only at f1 f2;obtain⟨d,GC⟩:=exH (lowK es key);have ei:d.length=es.length:=by rw[GC.out];exact cN es key
 have mr:d≠[]:=fun e=>aw (List.length_eq_zero_iff.1 (by rw[<-ei,e];rfl));rw[<-GC.out]at w1 p1;have fg:(setN f b (2,d)).n b=some (2,d):=aD _ _ _;obtain⟨_,F,zn,_⟩:=p1.inner w1;rw[fg]at F;cases F;have fj:bI d key<d.length:=eJ key mr;have im:Sz K (setN f b (2,d)):=hz.setN eX (by simp only;omega);have HD:Hid (stepDown f b key=match shadow (setN f b (2,d)) (.ai b (bI d key))with
  | none=>none
  | some (g,c)=>
   if(Fo.look g c).2.length=5 then
    if aF g=0 then none else
     some (splitF g b (Fo.look g b).2 (bI d key) c (Fo.look g c).1 (Fo.look g c).2 3 (aF g) (ky (Fo.look g c).2 3),if kl key (ky (Fo.look g c).2 3)=true then c else aF g)
   else some (g,c)):=by
  show stepDown f b key=_
  unfold stepDown;rw[aE ah,GC.out];rfl
 have H0:=jC;have lq:=rE;have HL:=aA ei;have Xw:=(V.arr g rfl).1.frozen 0;have Nj:((bI d key:Nat):Int) <(d.length:Int):=by omega
 have QS:0 <(es.length:Int):=by omega
 have mo:es.length+s.length<=maxLen:=V.small;go_enter Tryz.func100,Tryz.ntmps100;by_cases m0:kl key (ky es 0)=true
 case' pos=>
  have ak:Op.bytesLess key.toList (ky es 0).toList=true:=m0;have gh:d=es.set 0 (key,(es.getD 0 e0).2):=by rw[GC.out];unfold lowK;rw[if_pos m0]
  have AB:aM (w.setCell ⟨g,0,none⟩ (.string key)) q (2,d) (some g) s:=by
   have:=V.cp (i:=0) (j:=0) (v:=.string key) (e':=(key,(es.getD 0 e0).2)) h0 (by omega) (by simp[aJ])
   rw[gh];simpa using this
  obtain⟨cg,Do⟩:=tu.aw (w':=w.setCell ⟨g,0,none⟩ (.string key)) ah hφ (Frm.set w (p:=⟨g,0,none⟩) (.inr hg) _) (by rw[hg];exact AB);clear m0 gh ei;go_wp2_with fail;refine(iE q (2,d) (some g) s key _ AB zn.a6 (by have:=HL.out;simp only;omega)).mono ?_;rintro e w2 ⟨rfl,di⟩
 case' neg=>
  have ak:Op.bytesLess key.toList (ky es 0).toList=false:=Bool.eq_false_iff.2 (show ¬Op.bytesLess key.toList (ky es 0).toList=true from m0);have gh:d=es:=by rw[GC.out];unfold lowK;rw[if_neg m0]
  have AB:aM w q (2,d) (some g) s:=by rw[gh];exact V
  have cg:St w ρ P A (setN f b (2,d)) J:=by rw[gh,aGN ah];exact tu
  have Do:Mv (fun _=>False) w ρ w ρ:=Mv.refl _ _ _;clear m0 gh ei;go_wp2_with fail;refine(iE q (2,d) (some g) s key _ AB zn.a6 (by have:=HL.out;simp only;omega)).mono ?_;rintro e w2 ⟨rfl,di⟩
 all_goals (
  have be:=cg.below di;have mf:Mv (fun _=>False) w ρ w2 ρ:=Do.trans (Mv.aa di) (fun _ _ e=>e);have ts:=AB.below di;clear cg Do AB di;have c2:w2.cell? ⟨q,1,none⟩=some (.slice (some ⟨g,0,none⟩) d.length (d.length+s.length)):=by rw[ts.box.cell];rfl
  have pr:JS 0 f J (setN f b (2,d)) J:=JS.setN _ sf;clear f1 f2 V;generalize hI:bI d key=i at *;have Br:dT (setN f b (2,d)) (.ai b i):=⟨eX,d,fg,fj⟩;have Bq:hZ A (.ai b i) ⟨g,i*3+2,none⟩:=⟨g,hg,rfl⟩;go_wp2_with fail;refine(iO w2 ρ P A (setN f b (2,d)) J (.ai b i) ⟨g,i*3+2,none⟩ be w1.ic im uq (by omega) (by omega) Br Bq (fun b' i' e=>by cases e;exact sf)).mono ?_;intro e w3 X;cases al:shadow (setN f b (2,d)) (.ai b i)with
  | none=>
   obtain⟨rfl,ρ3,D,g3,I,a1,a2,a3⟩:=X.no al;have ll:stepDown f b key=none:=by rw[HD.out,al]
   exact⟨rfl,fun _=>⟨rfl,ρ3,D,g3,I,a1,mf.trans a2 (fun _ _ e=>e),(pr.trans a3).up (by omega)⟩,fun g c B=>by rw[ll]at B;cases B⟩
  | some gc=>
   obtain⟨g1,c⟩:=gc;obtain⟨ρ3,D,I,q3,rfl,BY,L,Cl,ww⟩:=X.yes g1 c al;obtain⟨T,p2,p3,⟨k,E,m2,m3,m4⟩,m5,m6,m7,m8,m9⟩:=w1.aj p1 fg fj al;obtain⟨⟨m,a⟩,hd⟩:=T.ic.live (x:=c) (by rw[m6];omega);have av:a.length<=5:=by
    obtain⟨d',d1,_,d2,_⟩:=((p3.ok T.ok).1).bj;rw[hd]at d1;cases d1;exact d2
   have o9:b≠c:=fun e=>by
    have M:c∈kids (2,k):=by rw[<-m4];exact aQ (by rw[m2];exact fj)
    rw[<-e]at M;exact T.ic.ag E M
   obtain⟨q3',G,U,Vh,Oc,so⟩:=L.st.ah hd;rw[BY]at U;cases U;have C0:Hid (stepDown f b key=if a.length=5 then if aF g1=0 then none else some (splitF g1 b k i c m a 3 (aF g1) (ky a 3),if kl key (ky a 3)=true then c else aF g1)else some (g1,c)):=by
    have:=HD.out
    rw[al]at this;simp only[aE hd,aE E]at this;exact this
   clear HD;have R:Dn 12 (fun _=>True) w ρ P A f J w3 ρ3 D g1 I:=⟨L.st,mf.trans L.mv (fun _ _ e=>e),(pr.trans L.js).up (by omega),L.ad.top⟩;by_cases og:a.length=5
   ·have yq:¬(b=c\/b=bK (setN f b (2,d)) (.ai b i)):=fun e=>by
     rcases e with e | e
     ·exact o9 e
     ·have M:bK (setN f b (2,d)) (.ai b i)∈kids (2,d):=by simp only[bK,aE fg];exact gR fj
      rw[<-e]at M;exact w1.ic.ag fg M
    have G8:D.φ b=some q:=by rw[L.ad.φ b yq];exact hφ
    have TJ:D.α b=some g:=by rw[L.ad.α b yq];exact hg
    have HM:=aA (aI m2 (aI m4 av));obtain⟨gc,B⟩:=so.bd (by simp only;omega);rw[B]at so;have Ah:decide (a.length=5)=true:=by simpa using og
    have O:=aA og;clear og m2 m4 av X;go_wp2_with fail;refine(nW q3 (m,a) _ G _ so).mono ?_;rintro e N ⟨rfl,cx⟩;rw[cx];clear cx N;go_wp2_with fail;refine(oX q3 gc m a G _ so (by have:=O.out;omega) (by have:=O.out;omega)).mono ?_;rintro e N ⟨F,a1,j1,junk4,rfl,k1,k2,k3,k4,kF⟩;rw[show a.length-2=3 by have:=O.out;omega]at k3 k4;have kF':Frm (fun x=>x=q3\/D.α c=some x) w3 N:=kF.wide fun x _ e=>by rcases e with e | e;exact .inl e;right;rw[B,e]
    obtain⟨ax,BJ⟩:=L.st.aw hd BY kF' (by rw[B];exact k4);have Fy:∀x,w3.heap.size<=x->ρ3 x=0:=fun x hx=>Nat.eq_zero_of_not_pos fun q=>by
     obtain⟨_,_,_,iy,_⟩:=id L.st;exact absurd (iy.own x (by omega)) (by omega)
    have Ra:c<g1.c.length:=ww.lt c _ hd;have je:Sz (K+10) (setN g1 c (m,a.take 3)):=ww.setN Ra (by simp;omega);have Cg:JS 0 g1 I (setN g1 c (m,a.take 3)) I:=JS.setN _ Cl;obtain⟨ga,xu⟩:=k3.bd (by have:=O.out;simp;omega);subst xu;have xu:w3.heap.size<=ga:=k2 ga rfl;have fw:(setN g1 c (m,a.take 3)).n b=some (2,k):=(aC _ _ o9).trans E;obtain⟨q',l,U,ZJ,ZK,i8⟩:=ax.ah fw;rw[G8]at U;cases U;rw[TJ]at i8;have TM:ρ3 g=cG b:=ZK g TJ;obtain⟨c1,c2'⟩:=k3.first rfl (n:=2) (by have:=O.out;simp;omega) (by omega);have ek1:ky (a.drop 3) 0=ky a 3:=by unfold ky;simp[gD]
    rw[ek1]at c2';have BU:N.cell? ⟨q,1,none⟩=some (.slice (some ⟨g,0,none⟩) k.length (k.length+l.length)):=by rw[i8.box.cell];rfl
    obtain⟨i1,tq⟩:=exH (i+1);have yc:IntKind.i64.wrap ((i:Int)+1)=(i1:Int):=by
     have:=tq.out
     rw[IntWalk.i64_in _ ⟨by omega,by have:=HL.out;omega⟩];omega
    obtain⟨C,Hk⟩:=exH (ky a 3);rw[<-Hk.out]at c2' C0;have HC:=aA (aI ak (aI m5 (aI m6 m7)));clear ak ek1 m5 m6 m7 so k4 kF kF' Ah c2;go_wp2;have dw:N.drew.cell? ⟨q,1,none⟩=some (.slice (some ⟨g,0,none⟩) k.length (k.length+l.length)):=BU;have Q:=dw;clear dw c1 c2';refine bA (fun W=>W.cell? ⟨q,1,none⟩=some (.slice (some ⟨g,0,none⟩) k.length (k.length+l.length))) 16 (by kernel_rfl) ?_;refine tJ 0 52 (.pointer (some ⟨q,0,none⟩)) rfl Q ?_ (fun w' y=>by obtain E:=y;go_simp;try rfl);refine tJ 1 53 (.pointer (some ⟨q,0,none⟩)) rfl Q ?_ (fun w' y=>by obtain E:=y;go_simp;try rfl);refine tJ 2 54 (.pointer (some ⟨q,0,none⟩)) rfl Q ?_ (fun w' y=>by obtain E:=y;go_simp;try rfl);refine tJ 3 55 (.pointer (some ⟨q,1,none⟩)) rfl Q ?_ (fun w' y=>by obtain E:=y;go_simp;try rfl);refine tJ 4 56 (.slice (some ⟨g,0,none⟩) k.length (k.length+l.length)) rfl Q ?_ (fun w' y=>by obtain E:=y;go_simp;try rfl);refine tJ 5 57 (.int .i64 i) rfl Q ?_ (fun w' y=>by obtain E:=y;go_simp;try rfl);refine tJ 6 58 (.int .i64 i1) rfl Q ?_ (fun w' y=>by obtain E:=y;go_simp;try rfl);refine tJ 7 59 (.string C) rfl Q ?_ (fun w' y=>by obtain E:=y;go_simp;try rfl);refine tJ 8 60 (.pointer (some ⟨P,0,none⟩)) rfl Q ?_ (fun w' y=>by obtain E:=y;go_simp;try rfl);refine tJ 9 61 (.pointer (some ⟨F,0,none⟩)) rfl Q ?_ (fun w' y=>by obtain E:=y;go_simp;try rfl);simp only[Act.put,sB,sZ,sS];have vh:Bl N N.drew:=(bQ N.heap.size N).drew;have JX:=ax.below vh;refine oE 10 rfl fun K2 r=>?_;go_simp;refine(pC N.drew ρ3 P D (setN g1 c (m,a.take 3)) I F (m,a.drop 3) (some ga) j1 JX je (by omega) (by have:=L.js.len;omega) (k3.below vh) (Fy F k1) (fun x e=>by cases e;exact Fy ga xu)).mono ?_;intro e Z X;have BT:aF (setN g1 c (m,a.take 3))=aF g1:=rfl;by_cases hl:aF g1=0
    ·obtain⟨rfl,sm⟩:=X.no hl
     have ll:stepDown f b key=none:=by rw[C0.out,if_pos O.out,if_pos hl]
     exact⟨rfl,fun _=>⟨rfl,ρ3,D,_,I,JX.below sm,((R.mv.trans BJ (fun _ _ e=>e)).trans (Mv.aa vh) (fun _ _ e=>e)).trans (Mv.aa sm) (fun _ _ e=>e),(R.js.trans Cg).up (by omega)⟩,fun g c B=>by rw[ll]at B;cases B⟩
    ·obtain⟨he,ρ5,de,oa,eu⟩:=X.yes hl
     rw[BT]at he de;subst he;have S:stepDown f b key=some (splitF g1 b k i c m a 3 (aF g1) C,if kl key C=true then c else aF g1):=by rw[C0.out,if_pos O.out,if_neg hl]
     obtain⟨l1,l2,l3,l4⟩:=aO hl;have Pd:g1.n (aF g1)=none:=(T.ic.a8.dead _).2 l3;generalize aF g1=z at *;have Ds:b≠z:=fun e=>by rw[e,Pd]at E;cases E
     have yx:c≠z:=fun e=>by rw[e,Pd]at hd;cases hd
     have FV:JS 1 g1 I (takeAt (setN g1 c (m,a.take 3)) z (m,a.drop 3)) (I++[(z,cu (setN g1 c (m,a.take 3)) z,(setN g1 c (m,a.take 3)).n z)]):=(Cg.trans (JS.save l2)).trans (JS.takeAt _ Tch.saved);have M5:Tch z (I++[(z,cu (setN g1 c (m,a.take 3)) z,(setN g1 c (m,a.take 3)).n z)]):=Tch.saved;generalize I++[(z,cu (setN g1 c (m,a.take 3)) z,(setN g1 c (m,a.take 3)).n z)]=J5 at *;have EP:Mv (fun _=>False) w ρ Z ρ5:=((((R.mv.trans BJ (fun _ _ e=>e)).trans (Mv.aa vh) (fun _ _ e=>e)).up (Y:=fun x=>x=F\/some ga=some x) (fun _ _ e=>e.elim)).trans oa (fun _ _ e=>e)).up fun x hx e=>by
      have:=R.mv.ae.size
      rcases e with e | e
      ·omega
      ·cases e;omega
     have aw:∀x,(x=cJ b\/x=cG b)->¬(x=1\/x=6\/x=3\/x=4):=fun x e=>by unfold cJ cG at e;omega
     have GM:aM Z q (2,k) (some g) l:=(i8.below vh).ae eu (by rw[ZJ];exact aw _ (.inl rfl)) (fun x e=>by cases e;rw[TM];exact aw _ (.inr rfl));have mn:Z.cell? ⟨q,1,none⟩=some (.slice (some ⟨g,0,none⟩) k.length (k.length+l.length)):=by rw[GM.box.cell];rfl
     refine r _ _ (fun _=>mn) ?_;clear r K2 Q X;refine oE 11 rfl fun K2 r=>?_;go_simp;refine r _ _ (fun _=>mn) ?_;clear r K2;refine oE 12 rfl fun K2 r=>?_;go_simp;obtain⟨G6,AS⟩:=exH (Z.heap.size);obtain⟨W6,Bd⟩:=exH (Z.alloc (.cells #[.string C,.string ⟨#[]⟩,.int .i64 z] 130));rw[<-Bd.out,<-AS.out];have AC:IsC W6 G6 (cC [(C,.empty,(z:Int))]) 130:=by rw[Bd.out,AS.out];exact IsC.new _ _ _
     have r9:Bl Z W6:=by rw[Bd.out];exact(bQ Z.heap.size Z).alloc (nR _) _
     have Mh:g≠G6:=by rw[AS.out];exact Nat.ne_of_lt (GM.arr g rfl).1.lt
     have oz:=GM.below r9;have Ax:W6.cell? ⟨q,1,none⟩=some (.slice (some ⟨g,0,none⟩) k.length (k.length+l.length)):=by rw[oz.box.cell];rfl
     refine r _ _ (fun _=>Ax) ?_;clear r K2 mn;have lp:=de.below r9;have AK:i<k.length:=by rw[HM.out.1];exact fj
     have kh:(takeAt (setN g1 c (m,a.take 3)) z (m,a.drop 3)).n b=some (2,k):=(aC _ _ Ds).trans fw;have Ph:(dA D z F (some ga)).φ b=some q:=(aC _ _ Ds).trans G8;have ZF:(dA D z F (some ga)).α b=some g:=(aC _ _ Ds).trans TJ;refine oE 13 rfl fun K2 r=>?_;go_simp;refine(kD (some g) k l [(C,.empty,(z:Int))] (some ⟨G6,0,none⟩) 1 i1 W6 (fun x e=>by cases e;exact(oz.arr g rfl).1) (fun e=>by cases e) (.inr ⟨G6,0,1,[(C,.empty,(z:Int))],rfl,AC,by simp,by simp⟩) (fun gv o n c e e'=>by cases e;cases e';exact Mh rfl) (by rw[tq.out];omega) (by simp) (by have:=HM.out.1;have:=HL.out;simp;omega) oz.small).mono ?_;rintro e w7 ⟨u,rfl,el⟩;obtain⟨ua,un,uc,rfl⟩:∃ua un uc,u=.slice ua un uc:=by obtain⟨⟨a',j',e,_⟩,_⟩:=el;exact⟨_,_,_,e⟩
     have oo:w7.cell? ⟨q,1,none⟩=some (.slice (some ⟨g,0,none⟩) k.length (k.length+l.length)):=(dE (el.ae.block q oz.box.lt (fun e=>(oz.arr q e).2 rfl)) 1).trans Ax;obtain⟨a',-,oe,BK,-,xm⟩:=lp.ins (w1:=w7) (u:=.slice ua un uc) kh Ph (by rw[ZF];exact el);have Kt:k.take i1++[(C,.empty,(z:Int))]++k.drop i1=insE k (i+1) (C,.empty,(z:Int)):=by rw[tq.out];simp[insE]
     rw[Kt]at oe;have mq:setN (takeAt (setN g1 c (m,a.take 3)) z (m,a.drop 3)) b (2,insE k (i+1) (C,.empty,(z:Int)))=splitF g1 b k i c m a 3 z C:=rfl;rw[mq]at oe;have Eg:b <(takeAt (setN g1 c (m,a.take 3)) z (m,a.drop 3)).c.length:=by
      have:b<g1.c.length:=ww.lt b _ E
      simpa [takeAt,setN] using this
     have BV:Sz (K+10) (splitF g1 b k i c m a 3 z C):=(je.takeAt (by omega) l2 (by have:=O.out;simp;omega)).setN Eg (by have:=HM.out.1;have:=HL.out;simp only[insE,lP,List.length_take,List.length_cons,List.length_drop];omega);have UI:JS 13 f J (splitF g1 b k i c m a 3 z C) J5:=((R.js.trans FV).trans (JS.setN _ (FV.b5 b (L.js.b5 b sf)))).up (by omega);have EZ:Tch c J5:=FV.b5 c Cl;have Cz:(dQ (dA D z F (some ga)) b a').φ c=some q3:=(aC _ _ yx).trans BY;have ZM:(dQ (dA D z F (some ga)) b a').φ z=some F:=aD _ _ _;have T9:AdS (fun _=>True) A (dQ (dA D z F (some ga)) b a'):=(R.ad.trans ((AdS.put D z F (some ga)).trans (AdS.arr _ b a'))).up fun _ _=>trivial;have HF:=aA (show Dn 13 (fun _=>True) w ρ P A f J (w7.setCell ⟨q,1,none⟩ (.slice ua un uc)) (jL ρ5 a' b) (dQ (dA D z F (some ga)) b a') (splitF g1 b k i c m a 3 z C) J5 from⟨oe,(EP.trans (Mv.aa r9) (fun _ _ e=>e)).trans BK (fun _ _ e=>e),UI,T9⟩);have HY:=aA (aI S (aI EZ (aI M5 BV)));refine r _ _ (fun _=>oo) ?_;clear r K2 Ax S EZ M5 BV T9 UI oe BK mq Kt lp de EP oa eu JX ax BJ R L FV Cg C0 el oz i8 GM AC je ww;refine oE 14 rfl fun K2 r=>?_;go_simp;refine r _ _ (fun _=>oo) ?_;clear r K2;refine oE 15 rfl fun K2 r=>?_;go_simp;refine r _ _ (fun _=>oo) ?_;clear r K2;refine oE 16 rfl fun K2 r=>?_;go_simp;refine r _ _ (fun q=>absurd rfl q) ?_;clear r K2;refine aS (by kernel_rfl) ?_ _;by_cases M:kl key C=true
     ·have SZ:Op.bytesLess key.toList C.toList=true:=M
      have HK:=aA M;clear M;go_wp2;go_ret;obtain⟨S,EZ,M5,BV⟩:=HY.out;rw[if_pos HK.out]at S;refine⟨fun q=>(by rw[S]at q;cases q),fun g' c' B=>?_⟩;rw[S]at B;cases B;exact⟨_,_,J5,q3,rfl,Cz,HF.out,EZ,BV⟩
     ·have SZ:Op.bytesLess key.toList C.toList=false:=Bool.eq_false_iff.2 (show ¬Op.bytesLess key.toList C.toList=true from M)
      have HK:=aA M;clear M;go_wp2;go_ret;obtain⟨S,EZ,M5,BV⟩:=HY.out;rw[if_neg HK.out]at S;refine⟨fun q=>(by rw[S]at q;cases q),fun g' c' B=>?_⟩;rw[S]at B;cases B;exact⟨_,_,J5,F,rfl,ZM,HF.out,M5,BV⟩
   ·have Ah:decide (a.length=5)=false:=by simpa using og
    have O:=aA og;clear og X;go_wp2_with fail;refine(nW q3 (m,a) _ G _ so).mono ?_;rintro e N ⟨rfl,cx⟩;rw[cx];clear cx N;go_wp2;go_ret;refine⟨fun q=>(by rw[C0.out,if_neg O.out]at q;cases q),fun g' c' B=>?_⟩;rw[C0.out,if_neg O.out]at B;cases B;exact⟨ρ3,D,I,q3,rfl,BY,⟨R.st,R.mv,R.js.up (by omega),R.ad⟩,Cl,ww⟩)
