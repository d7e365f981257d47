import Derived.Test.YtmpagpeenjddgaaGreatHq6
set_option maxHeartbeats 9999999
set_option maxRecDepth 99999
set_option linter.all false
namespace Go.Proofs.YtmpagpeenjddgaaGreat
open Go.RowKit Fo
variable{A:Adr}{K:Int}{junk:List E3}{P b q:Nat}{ρ:Nat->Nat}{d:Nd}{a:Option Nat}{w:World}{f:fZ}
theorem dF{W:World}{x:Nat}(h:W.heap[x]?=w.heap[x]?)(i:Nat):W.cell? (aD x i)=w.cell? (aD x i):=by simp[World.cell?,h]
theorem St.bh{J:List aS}(h:St w ρ P A f J){t:Nat}(ht:t<f.r.length)(c:0<=(f.r.getD t (0,0)).2):w.cell? (aD A.ra (t*2+1))=some (iV (aB f t))/\w.frozen? (aD A.ra (t*2+1))=false:=by
 obtain⟨_,_,_,a,_⟩:=id h;refine⟨?_,a.hr.frozen _⟩;rw[a.hr.cell,(lK (f.r++A.rj) (i:=t) (by simp;omega)).2];have b:(f.r++A.rj).getD t (0,0)=f.r.getD t (0,0):=by rw[gD,List.getElem?_append_left ht,<-gD]
 rw[b];simp only[aB];rw[show(((f.r.getD t (0,0)).2.toNat:Nat):Int)=(f.r.getD t (0,0)).2 by omega]
theorem aN.first(h:aN w q d a junk){g:Nat}(b:a=Option.some g){n:Nat}(hn:d.2.length=n)(c:0<n):w.cell? (aD q 1)=Option.some (.slice (Option.some ⟨g,0,none⟩) n (n+junk.length))/\w.cell? (aD g 0)=Option.some (.string (ky d.2 0)):=by
 subst b;refine⟨by rw[h.box.cell];simp[adr,hn],?_⟩;have:=(bM (h.arr g rfl).1 (i:=0) (by simp;omega)).1;rw[gD,List.getElem?_append_left (by omega),<-gD]at this;simpa [ky] using this
theorem aN.bf(h:aN w q d a junk)(b:0<d.2.length):∃g,a=Option.some g:=by
 obtain⟨g,e,_⟩:=h.some b;exact⟨g,e⟩
theorem jA(W:World)(k:ByteArray)(c:Int):(Instr.build 130 #[(0,.string k),(2,iV c)]).run Tryz.prog W=.ok (.agg #[.string k,.string .empty,iV c]) W:=by kernel_rfl
theorem aMR(W:World)(c e d f:ByteArray)(a b:Int):(Instr.buildSlice 94 2 #[(0,.agg #[.string c,.string e,iV a]),(1,.agg #[.string d,.string f,iV b])]).run Tryz.prog W=.ok (sL W.heap.size 0 2 2) (W.alloc (.cells #[.string c,.string e,iV a,.string d,.string f,iV b] 130)):=by kernel_rfl
structure GrS(q g q1 g1:Nat)(p:Addr)(n c n1 c1:Nat)(k0 k1:ByteArray)(r:Nat)(w:World):Prop where
 a1:w.cell? (aD q 1)=some (sL g 0 3 c)
 a2:w.cell? (aD g 0)=some (.string k0)
 a3:w.cell? p=some (iV r)
 a4:w.cell? (aD q1 1)=some (sL g1 0 2 c1)
 a5:w.cell? (aD g1 0)=some (.string k1)
structure GrP(w:World)(ρ:Nat->Nat)(P:Nat)(A:Adr)(f:fZ)(J:List aS)(t r:Nat)(K:Int)(e:Ending)(w':World):Prop where
 no:bO f t r=none->Pk 2 w ρ P f J e w'
 yes:∀g top,bO f t r=some (g,top)->∃ρ' A' J' q,e=.returned (pT q 0)/\A'.φ top=some q/\Dn 2 (fun _=>True) w ρ P A f J w' ρ' A' g J'/\Tch top J'/\Sz K g
theorem zH(w:World)(ρ:Nat->Nat)(P:Nat)(A:Adr)(f:fZ)(J:List aS)(t r:Nat)(k:Int)(es:List E3)(h:St w ρ P A f J)(hI:IC f)(hz:Sz K f)(vf:1<=K)(hK:K<=800000)(lq:J.length<=700000)(ht:t<f.r.length)(hr:aB f t=r)(hd:f.n r=some (k,es))(h5:es.length=5)(sm:Tch r J):
  Calls Tryz.prog 99 #[pT P 0,pT A.ra (t*2+1)] w (GrP w ρ P A f J t r K):=by
 have ut:r<f.c.length:=hz.lt r _ hd;have h0:0<=(f.r.getD t (0,0)).2:=(hI.rb _ (aQ ht)).1;obtain⟨AS,-⟩:=h.bh ht h0;rw[hr]at AS;obtain⟨ja,jp,jj,hR,hJ⟩:=id h;have m3:=hR.cells.m3;obtain⟨q,junk,hφ,yw,yu,hN⟩:=h.ah hd;obtain⟨g,hg⟩:=hN.bf (by simp;omega);rw[hg]at hN;have ig:∀n,(Instr.lookup 64 (.map (some A.m)) (iV r) false).run Tryz.prog (w.drewN n)=.ok (pT q 0) (w.drewN n):=fun n=>by
  have:=(hR.hm.of (w':=w.drewN n) rfl).lookup r (by have:=hz.al;omega)
  rw[hφ]at this;simpa only[fB,Option.map_some] using this
 have IT:=jA;have lj:=aMR;have mq:=gW;have H:=aA (aI hr h5);clear hr h5;go_enter Tryz.func99,Tryz.ntmps99;go_wp2;go_quiet (fail);clear ig m3 AS;go_wp2_with fail;refine(oW q g k es junk _ (hN.below (below_drewN _ _)) (by have:=H.out.2;omega) (by have:=H.out.2;omega)).mono ?_;rintro e w1 ⟨m,a1,j1,junk1,rfl,k1,k2,k3,k4,kF⟩;have kF':Frm (fun x=>x=q\/A.α r=some x) w w1:=(Frm.aa (below_drewN _ _)).trans (kF.wide fun x _ e=>by rcases e with e | e;exact .inl e;right;rw[hg,e]);have e53:es.length-2=3:=by have:=H.out.2;omega
 rw[e53]at k3 k4;obtain⟨bw,D6⟩:=h.aw hd hφ kF' (by rw[hg];exact k4);have Ds:w.heap.size<=m:=k1;have GO:∀x,w.heap.size<=x->ρ x=0:=fun x B=>Nat.eq_zero_of_not_pos fun q=>absurd (hR.own x (by omega)) (by omega);have ix:Sz K (setN f r (k,es.take 3)):=hz.setN ut (by simp;omega);have qm:JS 0 f J (setN f r (k,es.take 3)) J:=JS.setN _ sm;obtain⟨l,lw⟩:=k3.bf (by have:=H.out.2;simp;omega);subst lw;have k2':w.heap.size<=l:=k2 l rfl;have LR:Fo.look f r=(k,es):=aF hd;go_wp2_with fail;refine(pB w1 ρ P A _ J m (k,es.drop 3) (some l) j1 bw ix (by omega) (by omega) k3 (GO m Ds) (fun x e=>by cases e;exact GO l k2')).mono ?_;intro e y N;by_cases hl:aG f=0
 ·obtain⟨rfl,c9⟩:=N.no hl
  have R:bO f t r=none:=by unfold bO;rw[if_pos hl]
  exact⟨rfl,fun _=>⟨rfl,ρ,A,_,J,bw.below c9,D6.trans (Mv.aa c9) (fun _ _ e=>e),qm.up (by omega)⟩,fun g c I=>by rw[R]at I;cases I⟩
 ·obtain⟨he,ρ2,E,ml,-⟩:=N.yes hl
  have Bp:aG (setN f r (k,es.take 3))=aG f:=rfl;rw[Bp]at he E;subst he;obtain⟨l1,l2,l3,l4⟩:=aP hl;have dm:f.n (aG f)=none:=(hI.bb.dead _).2 l3;have X:Hid (bO f t r=if aG (takeAt (setN f r (k,es.take 3)) (aG f) (k,es.drop 3))=0 then none else some (growF f t r k es 3 (aG f) (aG (takeAt (setN f r (k,es.take 3)) (aG f) (k,es.drop 3))) (ky es 0) (ky es 3),aG (takeAt (setN f r (k,es.take 3)) (aG f) (k,es.drop 3)))):=by
   show bO f t r=_
   unfold bO;rw[if_neg hl,LR]
  generalize aG f=z at *;have Om:r≠z:=fun e=>by rw[e,dm]at hd;cases hd
  have sw:Mv (fun _=>False) w ρ y ρ2:=((D6.up (Y:=fun x=>x=m\/some l=some x) (fun _ _ e=>e.elim)).trans ml (fun _ _ e=>e)).up fun x B e=>by
   rcases e with e | e
   ·omega
   ·cases e;omega
  have V:Sz K (takeAt (setN f r (k,es.take 3)) z (k,es.drop 3)):=ix.takeAt vf l2 (by simp;omega);have vh:(takeAt (setN f r (k,es.take 3)) z (k,es.drop 3)).n r=some (k,es.take 3):=by
   show upd (upd f.n r _) z _ r=_
   rw[aC _ _ Om,aE]
  have Nz:(takeAt (setN f r (k,es.take 3)) z (k,es.drop 3)).n z=some (k,es.drop 3):=aE _ _ _;obtain⟨jg,K9⟩:=E.bh (t:=t) ht h0;rw[show aB (takeAt (setN f r (k,es.take 3)) z (k,es.drop 3)) t=r from H.out.1,show(dB A z m (some l)).ra=A.ra from rfl]at jg;obtain⟨q',F,u1,-,-,u2⟩:=E.ah vh;have u3:(dB A z m (some l)).φ r=some q:=by show upd A.φ z _ r=_;rw[aC _ _ Om];exact hφ
  rw[u3]at u1;cases u1;have u4:(dB A z m (some l)).α r=some g:=by show upd A.α z _ r=_;rw[aC _ _ Om];exact hg
  obtain⟨q1',G,v1,-,-,T⟩:=E.ah Nz;have v3:(dB A z m (some l)).φ z=some m:=aE _ _ _;rw[v3]at v1;cases v1;have v4:(dB A z m (some l)).α z=some l:=aE _ _ _;have f1:=u2.first u4 (n:=3) (by have:=H.out.2;simp;omega) (by omega);have f2:=T.first v4 (n:=2) (by have:=H.out.2;simp;omega) (by omega);have ek0:ky (es.take 3) 0=ky es 0:=by unfold ky;simp[gD,List.getElem?_take]
  have ek1:ky (es.drop 3) 0=ky es 3:=by unfold ky;simp[gD]
  rw[ek0]at f1;rw[ek1]at f2;have ai:∀x,(x=q\/x=g\/x=A.ra\/x=m\/x=l)->x<y.heap.size:=fun x B=>by
   obtain⟨_,_,_,je,_⟩:=id E;rcases B with e | e | e | e | e<;>rw[e]
   ·exact u2.box.lt
   ·exact(u2.arr g u4).1.lt
   ·exact je.hr.lt
   ·exact T.box.lt
   ·exact(T.arr l v4).1.lt
  have O:Hid (∀W:World,(∀x,(x=q\/x=g\/x=A.ra\/x=m\/x=l)->W.heap[x]?=y.heap[x]?)->GrS q g m l ⟨A.ra,t*2+1,none⟩ 3 (3+F.length) 2 (2+G.length) (ky es 0) (ky es 3) r W):=fun W hW=>
   ⟨(dF (hW _ (by simp)) _).trans f1.1,(dF (hW _ (by simp)) _).trans f1.2,(dF (hW _ (by simp)) _).trans jg,(dF (hW _ (by simp)) _).trans f2.1,(dF (hW _ (by simp)) _).trans f2.2⟩
  have o:=O.out y.drew (fun _ _=>rfl);obtain⟨a,CY⟩:∃a,a=takeAt (setN f r (k,es.take 3)) z (k,es.drop 3):=⟨_,rfl⟩;have sq:=aA CY;have qn:JS 1 f J a (J++[(z,cu (setN f r (k,es.take 3)) z,(setN f r (k,es.take 3)).n z)]):=by rw[CY];exact(qm.trans (JS.save l2)).trans (JS.takeAt _ Tch.saved)
  rw[<-CY]at E V X;generalize J++[(z,cu (setN f r (k,es.take 3)) z,(setN f r (k,es.take 3)).n z)]=Q at *;obtain⟨c2,BB⟩:∃c2,c2=3+F.length:=⟨_,rfl⟩;obtain⟨c3,Kc⟩:∃c3,c3=2+G.length:=⟨_,rfl⟩;rw[<-BB,<-Kc]at O o;obtain⟨s,T2⟩:∃s,s=ky es 0:=⟨_,rfl⟩;obtain⟨u,QF⟩:∃u,u=ky es 3:=⟨_,rfl⟩;rw[<-T2,<-QF]at O o X;have HL:=aA ai;clear CY BB Kc T2 QF f1 f2 jg u2 T vh Nz N ml bw D6 k3 k4 kF kF' hN ai K9 ek0 ek1 u3 v3 e53;go_wp2;refine bB (GrS q g m l ⟨A.ra,t*2+1,none⟩ 3 c2 2 c3 s u r) 27 (by kernel_rfl) ?_;refine tJ 0 21 (pT A.ra (t*2+1)) rfl o ?_;refine tJ 1 22 (pT P 0) rfl o ?_;refine tJ 2 23 (pT q 0) rfl o ?_;refine tJ 3 24 (pT q 0) rfl o ?_;refine tJ 4 25 (pT q 1) rfl o ?_;refine tJ 5 26 (sL g 0 3 c2) rfl o ?_;refine tJ 6 27 (pT g 0) rfl o ?_;refine tJ 7 28 (pT g 0) rfl o ?_;refine tJ 8 29 (.string s) rfl o ?_;refine tJ 9 30 (pT A.ra (t*2+1)) rfl o ?_;refine tJ 10 31 (pT A.ra (t*2+1)) rfl o ?_;refine tJ 11 32 (iV r) rfl o ?_;refine tJ 12 33 (.agg #[.string s,.string .empty,iV r]) rfl o ?_;refine tJ 13 34 (pT m 0) rfl o ?_;refine tJ 14 35 (pT m 0) rfl o ?_;refine tJ 15 36 (pT m 1) rfl o ?_;refine tJ 16 37 (sL l 0 2 c3) rfl o ?_;refine tJ 17 38 (pT l 0) rfl o ?_;refine tJ 18 39 (pT l 0) rfl o ?_;refine tJ 19 40 (.string u) rfl o ?_;refine tJ 20 41 (iV z) rfl o ?_;refine tJ 21 42 (.agg #[.string u,.string .empty,iV z]) rfl o ?_;simp only[Act.put,sB,sZ,sS];obtain⟨D,Qh⟩:=exH (y.heap.size);refine oE 22 rfl fun K2 v=>?_;go_simp;obtain⟨W3,Q1⟩:=exH ((y.alloc (.cells #[.string s,.string .empty,iV r,.string u,.string .empty,iV z] 130)).drew);rw[<-Q1.out,<-Qh.out];have sx:IsC W3 D (cC [(s,.empty,(r:Int)),(u,.empty,(z:Int))]) 130:=by rw[Q1.out,Qh.out];exact(IsC.new y _ _).drew
  have fv:Bl y W3:=by rw[Q1.out];exact((bQ y.heap.size y).alloc (nR _) _).drew
  have vp:=O.out W3 fun x B=>fv.block x (HL.out x B);refine v _ _ (fun _=>vp) ?_;clear v K2 o;refine oE 23 rfl fun K2 v=>?_;go_simp;refine v _ _ (fun _=>vp) ?_;clear v K2;refine oE 24 rfl fun K2 v=>?_;go_simp;obtain⟨C,PZ⟩:=exH (W3.heap.size);obtain⟨W4,AK⟩:=exH (W3.alloc (.cells #[iV 2,sL D 0 2 2] 96));rw[<-AK.out,<-PZ.out];have S:Bl y W4:=by rw[AK.out];exact fv.alloc fv.size _
  have FO:=O.out W4 fun x B=>S.block x (HL.out x B);have Eg:aN W4 C (2,[(s,.empty,(r:Int)),(u,.empty,(z:Int))]) (some D) []:=by
   refine⟨?_,fun x e=>?_,fun e=>(by cases e),by simp[maxLen]⟩
   ·rw[AK.out,PZ.out];exact IsC.new _ _ _
   ·cases e
    refine⟨?_,?_⟩
    ·rw[AK.out];simpa using sx.alloc _
    ·rw[PZ.out];exact Nat.ne_of_lt sx.lt
  have YC:y.heap.size<=C:=by rw[PZ.out];exact fv.size
  have Xw:y.heap.size<=D:=by rw[Qh.out];exact nR _
  refine v _ _ (fun _=>FO) ?_;clear v K2 vp;have av:=E.below S;have Wj:∀x,y.heap.size<=x->ρ2 x=0:=fun x B=>Nat.eq_zero_of_not_pos fun q=>by
   obtain⟨_,_,_,je,_⟩:=id E;exact absurd (je.own x (by omega)) (by omega)
  have Xy:Q.length<=700001:=by have:=qn.len;omega
  refine oE 25 rfl fun K2 v=>?_;go_simp;refine(pB W4 ρ2 P (dB A z m (some l)) a Q C _ (some D) [] av V (by omega) (by omega) Eg (Wj _ YC) (fun x e=>by cases e;exact Wj _ Xw)).mono ?_;intro e L N;by_cases Z:aG a=0
  ·obtain⟨rfl,su⟩:=N.no Z
   have R:bO f t r=none:=by rw[X.out,if_pos Z]
   exact⟨rfl,fun _=>⟨rfl,ρ2,_,a,Q,av.below su,(sw.trans (Mv.aa S) (fun _ _ e=>e)).trans (Mv.aa su) (fun _ _ e=>e),qn.up (by omega)⟩,fun g c I=>by rw[R]at I;cases I⟩
  ·obtain⟨rfl,ρ5,cy,o6,ez⟩:=N.yes Z
   have R:bO f t r=some (growF f t r k es 3 z (aG a) s u,aG a):=by rw[X.out,if_neg Z]
   obtain⟨n1,n2,n3,n4⟩:=aP Z;have Fr:JS 2 f J (takeAt a (aG a) (2,[(s,.empty,(r:Int)),(u,.empty,(z:Int))])) (Q++[(aG a,cu a (aG a),a.n (aG a))]):=(qn.trans (JS.save n2)).trans (JS.takeAt _ Tch.saved);have Ep:Tch (aG a) (Q++[(aG a,cu a (aG a),a.n (aG a))]):=Tch.saved;have BY:Sz K (takeAt a (aG a) (2,[(s,.empty,(r:Int)),(u,.empty,(z:Int))])):=V.takeAt vf n2 (by simp);have ft:∀x,x<y.heap.size->ρ2 x≠1->ρ2 x≠6->ρ2 x≠3->ρ2 x≠4->L.heap[x]?=y.heap[x]?:=fun x B e1 e2 e3 e4=>(ez.block x (lL B S.size) (by omega)).trans (S.block x B);generalize Q++[(aG a,cu a (aG a),a.n (aG a))]=J5 at *;generalize aG a=j at *;have Ef:Mv (fun _=>False) w ρ L ρ5:=(((sw.trans (Mv.aa S) (fun _ _ e=>e)).up (Y:=fun x=>x=C\/some D=some x) (fun _ _ e=>e.elim)).trans o6 (fun _ _ e=>e)).up fun x B e=>by
    have:=sw.ae.size
    rcases e with e | e
    ·omega
    ·cases e;omega
   have M:(takeAt a j (2,[(s,.empty,(r:Int)),(u,.empty,(z:Int))])).r=f.r:=by show a.r=_;rw[sq.out];rfl
   obtain⟨E2,N7⟩:=cy.bh (t:=t) (by rw[M];exact ht) (by rw[M];exact h0);have fy:aB (takeAt a j (2,[(s,.empty,(r:Int)),(u,.empty,(z:Int))])) t=r:=by unfold aB;rw[M];exact H.out.1
   rw[fy,show(dB (dB A z m (some l)) j C (some D)).ra=A.ra from rfl]at E2;rw[show(dB (dB A z m (some l)) j C (some D)).ra=A.ra from rfl]at N7;have Pv:dU (takeAt a j (2,[(s,.empty,(r:Int)),(u,.empty,(z:Int))])) (.root t):=by show t<_;rw[M];exact ht
   obtain⟨lr,CL⟩:=cy.bR Pv (p:=aD A.ra (t*2+1)) rfl j;have I6:=BY.setL Pv j;have RV:=Fr.trans (JS.setL (.root t) j fun b i e=>(by cases e));have U:setL (takeAt a j (2,[(s,.empty,(r:Int)),(u,.empty,(z:Int))])) (.root t) j=growF f t r k es 3 z j s u:=by rw[sq.out];rfl
   rw[U]at lr I6 RV;have db:ρ2 q=cK r/\ρ2 g=cI r/\ρ2 A.ra=2/\ρ2 m=cK z/\ρ2 l=cI z:=by
    obtain⟨_,_,_,je,_⟩:=id E;obtain⟨x1,y1',z1,z2,z3,-⟩:=E.ah (b:=r) (d:=(k,es.take 3)) (by rw[sq.out];show upd (upd f.n r _) z _ r=_;rw[aC _ _ Om,aE]);obtain⟨x2,y2',v1,T,v3,-⟩:=E.ah (b:=z) (d:=(k,es.drop 3)) (by rw[sq.out];exact aE _ _ _);have u3:(dB A z m (some l)).φ r=some q:=by show upd A.φ z _ r=_;rw[aC _ _ Om];exact hφ
    rw[u3]at z1;cases z1;rw[show(dB A z m (some l)).φ z=some m from aE _ _ _]at v1;cases v1;exact⟨z2,z3 g u4,je.rr,T,v3 l v4⟩
   have qg:=O.out L fun x B=>by
    obtain⟨o1,o2,o3,o4,o5⟩:=db;refine ft x (HL.out x B) ?_ ?_ ?_ ?_<;>(rcases B with e | e | e | e | e<;>rw[e]<;>first | rw[o1] | rw[o2] | rw[o3] | rw[o4] | rw[o5])<;>first | omega | (unfold cK;omega) | (unfold cI;omega)
   have QL:(dB (dB A z m (some l)) j C (some D)).φ j=some C:=aE _ _ _;obtain⟨ja6,jp6,jj6,D8,RW⟩:=id lr;have o3:=D8.cells.m3;rw[show(dB (dB A z m (some l)) j C (some D)).m=A.m from rfl]at o3;have Od:aB (growF f t r k es 3 z j s u) t=j:=by
    rw[<-U];exact(jO Pv j).1
   have Of:(growF f t r k es 3 z j s u).r.length=f.r.length:=by rw[<-U];show(List.set _ _ _).length=_;rw[List.length_set,M]
   have NR:((growF f t r k es 3 z j s u).r.getD t (0,0)).2=(j:Int):=by
    rw[<-U];show((List.set _ t _).getD t (0,0)).2=_
    rw[bF _ _ _ _ _ (by rw[M];exact ht),if_pos rfl]
   have hc6:(L.setCell (aD A.ra (t*2+1)) (iV (j:Int))).cell? (aD A.ra (t*2+1))=some (iV (j:Int)):=by
    have h6:=(lr.bh (t:=t) (by rw[Of];exact ht) (by rw[NR];omega)).1;rw[Od]at h6;exact h6
   have ZR:∀n,(Instr.lookup 64 (.map (some A.m)) (iV j) false).run Tryz.prog ((L.setCell (aD A.ra (t*2+1)) (iV (j:Int))).drewN n)=.ok (pT C 0) ((L.setCell (aD A.ra (t*2+1)) (iV (j:Int))).drewN n):=fun n=>by
    have:=(D8.hm.of (w':=(L.setCell (aD A.ra (t*2+1)) (iV (j:Int))).drewN n) rfl).lookup j (by have:=I6.al;have:=n2;have:=V.al;omega)
    rw[QL]at this;rw[show(dB (dB A z m (some l)) j C (some D)).m=A.m from rfl]at this;simpa only[fB,Option.map_some] using this
   have HF:=aA (show Dn 2 (fun _=>True) w ρ P A f J (L.setCell (aD A.ra (t*2+1)) (iV (j:Int))) ρ5 (dB (dB A z m (some l)) j C (some D)) (growF f t r k es 3 z j s u) J5/\Tch j J5/\Sz K (growF f t r k es 3 z j s u)from⟨⟨lr,Ef.trans CL (fun _ _ e=>e),RV.up (by omega),⟨rfl,rfl,rfl,rfl,rfl,rfl,rfl,fun _ q=>absurd trivial q,fun _ q=>absurd trivial q⟩⟩,Ep,I6⟩);have Cw:=aA R;refine v _ _ (fun _=>qg) ?_;clear v K2 FO R lr CL I6 RV U Od Of NR D8 RW cy o6 ez Fr Ep BY ft Ef M fy Pv db N E av sw V qn X;refine oE 26 rfl fun K2 v=>?_;go_simp;refine v _ _ (fun _=>qg) ?_;clear v K2;refine oE 27 rfl fun K2 v=>?_;go_simp;refine v _ _ (fun q=>absurd rfl q) ?_;clear v K2;refine aT (by kernel_rfl) ?_ _;go_wp2;go_quiet (fail);go_wp2;go_ret;obtain⟨rf,CP,jx⟩:=HF.out;refine⟨fun q=>(by rw[Cw.out]at q;cases q),fun g c I=>?_⟩;rw[Cw.out]at I;cases I;exact⟨ρ5,_,J5,C,rfl,QL,rf.below (below_drewN _ _),CP,jx⟩
theorem aGR(h:f.n b=some d):setN f b d=f:=by
 have:upd f.n b (some d)=f.n:=funext fun x=>by by_cases e:x=b<;>simp[upd,e,h]
 unfold setN;rw[this]
theorem rE(W:World)(b c:ByteArray)(a:Int):(Instr.buildSlice 94 1 #[(0,.agg #[.string b,.string c,iV a])]).run Tryz.prog W=.ok (sL W.heap.size 0 1 1) (W.alloc (.cells #[.string b,.string c,iV a] 130)):=by kernel_rfl
theorem St.ins{w1:World}{J:List aS}(h:St w ρ P A f J){k:Int}{es ls:List E3}(o:f.n b=some (k,es))(r:A.φ b=some q){u:Value}(y:xZ w w1 (A.α b) u ls):
  ∃a',(∃g,a'=some g)/\St (w1.setCell (aD q 1) u) (jI ρ a' b) P (dR A b a') (setN f b (k,ls)) J/\Mv (fun _=>False) w ρ (w1.setCell (aD q 1) u) (jI ρ a' b)/\(∃c,w1.cell? (aD q 1)=some c)/\w1.frozen? (aD q 1)=false:=by
 obtain⟨⟨a',a,rfl,i,n,v⟩,hF⟩:=y;obtain⟨D,s,m,B,C,d⟩:=h.ah o;rw[r]at m;cases m;have j:IsC w1 q _ _:=d.box.ae hF (fun e=>(d.arr q e).2 rfl);have l:∀g,a'=some g->g≠q:=fun g e=>by
  rcases(i g e).2 with e' | e'
  ·exact(d.arr g e').2
  ·have:=d.box.lt;omega
 have t:Frm (fun x=>x=q\/A.α b=some x) w (w1.setCell (aD q 1) (.slice (adr a') ls.length (ls.length+a.length))):=(hF.wide fun x _ e=>.inr e).trans (Frm.set w1 (p:=aD q 1) (.inl rfl) _);have z:aN (w1.setCell (aD q 1) (.slice (adr a') ls.length (ls.length+a.length))) q (k,ls) a' a:=by
  refine⟨?_,fun g e=>⟨(i g e).1.set_ne _ (l g e),l g e⟩,fun e=>absurd e n,v⟩;have:=j.set 1 (.slice (adr a') ls.length (ls.length+a.length));simpa using this
 have:=h.node o r t z (fun g e=>(i g e).2)
 refine⟨a',?_,this.1,this.2,⟨_,j.c rfl⟩,j.frozen 1⟩;cases a' with
 | none=>exact absurd rfl n
 | some g=>exact⟨g,rfl⟩
structure DnP(w:World)(ρ:Nat->Nat)(P:Nat)(A:Adr)(f:fZ)(J:List aS)(b:Nat)(key:ByteArray)(K:Int)(e:Ending)(w':World):Prop where
 no:stepDown f b key=none->Pk 13 w ρ P f J e w'
 yes:∀g c,stepDown f b key=some (g,c)->∃ρ' A' J' q,e=.returned (pT q 0)/\A'.φ c=some q/\Dn 13 (fun _=>True) w ρ P A f J w' ρ' A' g J'/\Tch c J'/\Sz (K+10) g
theorem AdS.top{X:Nat->Prop}{A':Adr}(h:AdS X A A'):AdS (fun _=>True) A A':=h.up fun _ _=>trivial
theorem aAQ(w:World)(ρ:Nat->Nat)(P:Nat)(A:Adr)(f:fZ)(J:List aS)(t H:Nat)(Pt:List Nat)(b h:Nat)(lo hi:OB)(key:ByteArray)(q:Nat)(ug:St w ρ P A f J)(hW:Wk f t H)(hp:aO f t H Pt b (h+1) lo hi)(np:loR lo key)(h5:sz f.n b<5)(hφ:A.φ b=some q)(hz:Sz K f)(vf:1<=K)(hK:K<=700000)(lq:J.length<=600000)(sm:Tch b J):
  Calls Tryz.prog 100 #[pT P 0,pT q 0,.string key] w (DnP w ρ P A f J b key K):=by
 obtain⟨es,af,ur,au⟩:=hp.inner hW;have h0:0<es.length:=List.length_pos_iff.2 au;have BY:es.length<5:=by unfold sz at h5;rw[af]at h5;exact h5
 obtain⟨w1,p1,-⟩:=hW.bw hp af key np;have d5:b<f.c.length:=hz.lt b _ af;obtain⟨q',y,V,yw,yu,X⟩:=ug.ah af;rw[hφ]at V;cases V;obtain⟨g,hg⟩:=X.bf h0;rw[hg]at X;obtain⟨f1,f2⟩:=X.first rfl rfl h0;simp only at f1 f2;obtain⟨d,GV⟩:=exH (lowK es key);have ed:d.length=es.length:=by rw[GV.out];exact cM es key
 have mi:d≠[]:=fun e=>au (List.length_eq_zero_iff.1 (by rw[<-ed,e];rfl));rw[<-GV.out]at w1 p1;have ff:(setN f b (2,d)).n b=some (2,d):=aE _ _ _;obtain⟨_,G,AC,_⟩:=p1.inner w1;rw[ff]at G;cases G;have fk:bL d key<d.length:=eJ key mi;have ix:Sz K (setN f b (2,d)):=hz.setN d5 (by simp only;omega);have HD:Hid (stepDown f b key=match shadow (setN f b (2,d)) (.ai b (bL d key))with
  | none=>none
  | some (g,c)=>
   if(Fo.look g c).2.length=5 then
    if aG g=0 then none else
     some (splitF g b (Fo.look g b).2 (bL d key) c (Fo.look g c).1 (Fo.look g c).2 3 (aG g) (ky (Fo.look g c).2 3),if kl key (ky (Fo.look g c).2 3)=true then c else aG g)
   else some (g,c)):=by
  show stepDown f b key=_
  unfold stepDown;rw[aF af,GV.out];rfl
 have IT:=jA;have lj:=rE;have HL:=aA ed;have Yw:=(X.arr g rfl).1.frozen 0;have OH:((bL d key:Nat):Int) <(d.length:Int):=by omega
 have Q9:0 <(es.length:Int):=by omega
 have mw:es.length+y.length<=maxLen:=X.small;go_enter Tryz.func100,Tryz.ntmps100;by_cases oo:kl key (ky es 0)=true
 case' pos=>
  have ai:Op.bytesLess key.toList (ky es 0).toList=true:=oo;have ie:d=es.set 0 (key,(es.getD 0 e0).2):=by rw[GV.out];unfold lowK;rw[if_pos oo]
  have AO:aN (w.setCell (aD g 0) (.string key)) q (2,d) (some g) y:=by
   have:=X.cp (i:=0) (j:=0) (v:=.string key) (e':=(key,(es.getD 0 e0).2)) h0 (by omega) (by simp[aK])
   rw[ie];simpa using this
  obtain⟨bw,D6⟩:=ug.aw (w':=w.setCell (aD g 0) (.string key)) af hφ (Frm.set w (p:=aD g 0) (.inr hg) _) (by rw[hg];exact AO);clear oo ie ed;go_wp2_with fail;refine(hZ q (2,d) (some g) y key _ AO AC.a6 (by have:=HL.out;simp only;omega)).mono ?_;rintro e w2 ⟨rfl,c9⟩
 case' neg=>
  have ai:Op.bytesLess key.toList (ky es 0).toList=false:=Bool.eq_false_iff.2 (show ¬Op.bytesLess key.toList (ky es 0).toList=true from oo);have ie:d=es:=by rw[GV.out];unfold lowK;rw[if_neg oo]
  have AO:aN w q (2,d) (some g) y:=by rw[ie];exact X
  have bw:St w ρ P A (setN f b (2,d)) J:=by rw[ie,aGR af];exact ug
  have D6:Mv (fun _=>False) w ρ w ρ:=Mv.refl _ _ _;clear oo ie ed;go_wp2_with fail;refine(hZ q (2,d) (some g) y key _ AO AC.a6 (by have:=HL.out;simp only;omega)).mono ?_;rintro e w2 ⟨rfl,c9⟩
 all_goals (
  have ay:=bw.below c9;have ml:Mv (fun _=>False) w ρ w2 ρ:=D6.trans (Mv.aa c9) (fun _ _ e=>e);have uf:=AO.below c9;clear bw D6 AO c9;have c2:w2.cell? (aD q 1)=some (sL g 0 d.length (d.length+y.length)):=by rw[uf.box.cell];rfl
  have qm:JS 0 f J (setN f b (2,d)) J:=JS.setN _ sm;clear f1 f2 X;generalize hI:bL d key=i at *;have CK:dU (setN f b (2,d)) (.ai b i):=⟨d5,d,ff,fk⟩;have CJ:gY A (.ai b i) ⟨g,i*3+2,none⟩:=⟨g,hg,rfl⟩;go_wp2_with fail;refine(iM w2 ρ P A (setN f b (2,d)) J (.ai b i) ⟨g,i*3+2,none⟩ ay w1.ic ix vf (by omega) (by omega) CK CJ (fun b' i' e=>by cases e;exact sm)).mono ?_;intro e w3 Z;cases ak:shadow (setN f b (2,d)) (.ai b i)with
  | none=>
   obtain⟨rfl,ρ3,E,g3,L,a1,a2,a3⟩:=Z.no ak;have lp:stepDown f b key=none:=by rw[HD.out,ak]
   exact⟨rfl,fun _=>⟨rfl,ρ3,E,g3,L,a1,ml.trans a2 (fun _ _ e=>e),(qm.trans a3).up (by omega)⟩,fun g c C=>by rw[lp]at C;cases C⟩
  | some gc=>
   obtain⟨m,c⟩:=gc;obtain⟨ρ3,E,L,q3,rfl,Bw,M,C5,xm⟩:=Z.yes m c ak;obtain⟨U,p2,p3,⟨k,F,m2,m3,m4⟩,m5,m6,m7,m8,m9⟩:=w1.aj p1 ff fk ak;obtain⟨⟨r,a⟩,hd⟩:=U.ic.live (x:=c) (by rw[m6];omega);have ap:a.length<=5:=by
    obtain⟨d',d1,_,d2,_⟩:=((p3.ok U.ok).1).ba;rw[hd]at d1;cases d1;exact d2
   have mo:b≠c:=fun e=>by
    have N:c∈kids (2,k):=by rw[<-m4];exact aR (by rw[m2];exact fk)
    rw[<-e]at N;exact U.ic.ag F N
   obtain⟨q3',I,V,Wl,PG,sx⟩:=M.st.ah hd;rw[Bw]at V;cases V;have Ag:Hid (stepDown f b key=if a.length=5 then if aG m=0 then none else some (splitF m b k i c r a 3 (aG m) (ky a 3),if kl key (ky a 3)=true then c else aG m)else some (m,c)):=by
    have:=HD.out
    rw[ak]at this;simp only[aF hd,aF F]at this;exact this
   clear HD;have S:Dn 12 (fun _=>True) w ρ P A f J w3 ρ3 E m L:=⟨M.st,ml.trans M.mv (fun _ _ e=>e),(qm.trans M.js).up (by omega),M.ad.top⟩;by_cases pa:a.length=5
   ·have y9:¬(b=c\/b=bN (setN f b (2,d)) (.ai b i)):=fun e=>by
     rcases e with e | e
     ·exact mo e
     ·have N:bN (setN f b (2,d)) (.ai b i)∈kids (2,d):=by simp only[bN,aF ff];exact gP fk
      rw[<-e]at N;exact w1.ic.ag ff N
    have Hz:E.φ b=some q:=by rw[M.ad.φ b y9];exact hφ
    have T4:E.α b=some g:=by rw[M.ad.α b y9];exact hg
    have HM:=aA (aI m2 (aI m4 ap));obtain⟨gc,C⟩:=sx.bf (by simp only;omega);rw[C]at sx;have BD:decide (a.length=5)=true:=by simpa using pa
    have Q:=aA pa;clear pa m2 m4 ap Z;go_wp2_with fail;refine(nW q3 (r,a) _ I _ sx).mono ?_;rintro e O ⟨rfl,ci⟩;rw[ci];clear ci O;go_wp2_with fail;refine(oW q3 gc r a I _ sx (by have:=Q.out;omega) (by have:=Q.out;omega)).mono ?_;rintro e O ⟨G,a1,j1,junk4,rfl,k1,k2,k3,k4,kF⟩;rw[show a.length-2=3 by have:=Q.out;omega]at k3 k4;have kF':Frm (fun x=>x=q3\/E.α c=some x) w3 O:=kF.wide fun x _ e=>by rcases e with e | e;exact .inl e;right;rw[C,e]
    obtain⟨av,Bf⟩:=M.st.aw hd Bw kF' (by rw[C];exact k4);have GO:∀x,w3.heap.size<=x->ρ3 x=0:=fun x hx=>Nat.eq_zero_of_not_pos fun q=>by
     obtain⟨_,_,_,je,_⟩:=id M.st;exact absurd (je.own x (by omega)) (by omega)
    have SO:c<m.c.length:=xm.lt c _ hd;have jx:Sz (K+10) (setN m c (r,a.take 3)):=xm.setN SO (by simp;omega);have C0:JS 0 m L (setN m c (r,a.take 3)) L:=JS.setN _ C5;obtain⟨ga,yn⟩:=k3.bf (by have:=Q.out;simp;omega);subst yn;have yn:w3.heap.size<=ga:=k2 ga rfl;have it:(setN m c (r,a.take 3)).n b=some (2,k):=(aC _ _ mo).trans F;obtain⟨q',l,V,hρb,hρg,jo⟩:=av.ah it;rw[Hz]at V;cases V;rw[T4]at jo;have T7:ρ3 g=cI b:=hρg g T4;obtain⟨c1,c2'⟩:=k3.first rfl (n:=2) (by have:=Q.out;simp;omega) (by omega);have ek1:ky (a.drop 3) 0=ky a 3:=by unfold ky;simp[gD]
    rw[ek1]at c2';have FO:O.cell? (aD q 1)=some (sL g 0 k.length (k.length+l.length)):=by rw[jo.box.cell];rfl
    obtain⟨i1,ue⟩:=exH (i+1);have yt:IntKind.i64.wrap ((i:Int)+1)=(i1:Int):=by
     have:=ue.out
     rw[IntWalk.i64_in _ ⟨by omega,by have:=HL.out;omega⟩];omega
    obtain⟨D,IB⟩:=exH (ky a 3);rw[<-IB.out]at c2' Ag;have HC:=aA (aI ai (aI m5 (aI m6 m7)));clear ai ek1 m5 m6 m7 sx k4 kF kF' BD c2;go_wp2;have dm:O.drew.cell? (aD q 1)=some (sL g 0 k.length (k.length+l.length)):=FO;have R:=dm;clear dm c1 c2';refine bB (fun W=>W.cell? (aD q 1)=some (sL g 0 k.length (k.length+l.length))) 16 (by kernel_rfl) ?_;refine tJ 0 52 (pT q 0) rfl R ?_ (fun w' B=>by obtain F:=B;go_simp;try rfl);refine tJ 1 53 (pT q 0) rfl R ?_ (fun w' B=>by obtain F:=B;go_simp;try rfl);refine tJ 2 54 (pT q 0) rfl R ?_ (fun w' B=>by obtain F:=B;go_simp;try rfl);refine tJ 3 55 (pT q 1) rfl R ?_ (fun w' B=>by obtain F:=B;go_simp;try rfl);refine tJ 4 56 (sL g 0 k.length (k.length+l.length)) rfl R ?_ (fun w' B=>by obtain F:=B;go_simp;try rfl);refine tJ 5 57 (iV i) rfl R ?_ (fun w' B=>by obtain F:=B;go_simp;try rfl);refine tJ 6 58 (iV i1) rfl R ?_ (fun w' B=>by obtain F:=B;go_simp;try rfl);refine tJ 7 59 (.string D) rfl R ?_ (fun w' B=>by obtain F:=B;go_simp;try rfl);refine tJ 8 60 (pT P 0) rfl R ?_ (fun w' B=>by obtain F:=B;go_simp;try rfl);refine tJ 9 61 (pT G 0) rfl R ?_ (fun w' B=>by obtain F:=B;go_simp;try rfl);simp only[Act.put,sB,sZ,sS];have pr:Bl O O.drew:=(bQ O.heap.size O).drew;have Jy:=av.below pr;refine oE 10 rfl fun K2 s=>?_;go_simp;refine(pB O.drew ρ3 P E (setN m c (r,a.take 3)) L G (r,a.drop 3) (some ga) j1 Jy jx (by omega) (by have:=M.js.len;omega) (k3.below pr) (GO G k1) (fun x e=>by cases e;exact GO ga yn)).mono ?_;intro e w5 Z;have Bp:aG (setN m c (r,a.take 3))=aG m:=rfl;by_cases hl:aG m=0
    ·obtain⟨rfl,su⟩:=Z.no hl
     have lp:stepDown f b key=none:=by rw[Ag.out,if_pos Q.out,if_pos hl]
     exact⟨rfl,fun _=>⟨rfl,ρ3,E,_,L,Jy.below su,((S.mv.trans Bf (fun _ _ e=>e)).trans (Mv.aa pr) (fun _ _ e=>e)).trans (Mv.aa su) (fun _ _ e=>e),(S.js.trans C0).up (by omega)⟩,fun g c C=>by rw[lp]at C;cases C⟩
    ·obtain⟨he,ρ5,cy,o6,ez⟩:=Z.yes hl
     rw[Bp]at he cy;subst he;have T:stepDown f b key=some (splitF m b k i c r a 3 (aG m) D,if kl key D=true then c else aG m):=by rw[Ag.out,if_pos Q.out,if_neg hl]
     obtain⟨l1,l2,l3,l4⟩:=aP hl;have QH:m.n (aG m)=none:=(U.ic.bb.dead _).2 l3;generalize aG m=z at *;have EB:b≠z:=fun e=>by rw[e,QH]at F;cases F
     have zi:c≠z:=fun e=>by rw[e,QH]at hd;cases hd
     have Fr:JS 1 m L (takeAt (setN m c (r,a.take 3)) z (r,a.drop 3)) (L++[(z,cu (setN m c (r,a.take 3)) z,(setN m c (r,a.take 3)).n z)]):=(C0.trans (JS.save l2)).trans (JS.takeAt _ Tch.saved);have Nc:Tch z (L++[(z,cu (setN m c (r,a.take 3)) z,(setN m c (r,a.take 3)).n z)]):=Tch.saved;generalize L++[(z,cu (setN m c (r,a.take 3)) z,(setN m c (r,a.take 3)).n z)]=J5 at *;have Ef:Mv (fun _=>False) w ρ w5 ρ5:=((((S.mv.trans Bf (fun _ _ e=>e)).trans (Mv.aa pr) (fun _ _ e=>e)).up (Y:=fun x=>x=G\/some ga=some x) (fun _ _ e=>e.elim)).trans o6 (fun _ _ e=>e)).up fun x hx e=>by
      have:=S.mv.ae.size
      rcases e with e | e
      ·omega
      ·cases e;omega
     have au:∀x,(x=cK b\/x=cI b)->¬(x=1\/x=6\/x=3\/x=4):=fun x e=>by unfold cK cI at e;omega
     have Gg:aN w5 q (2,k) (some g) l:=(jo.below pr).ae ez (by rw[hρb];exact au _ (.inl rfl)) (fun x e=>by cases e;rw[T7];exact au _ (.inr rfl));have qg:w5.cell? (aD q 1)=some (sL g 0 k.length (k.length+l.length)):=by rw[Gg.box.cell];rfl
     refine s _ _ (fun _=>qg) ?_;clear s K2 R Z;refine oE 11 rfl fun K2 s=>?_;go_simp;refine s _ _ (fun _=>qg) ?_;clear s K2;refine oE 12 rfl fun K2 s=>?_;go_simp;obtain⟨G6,Aj⟩:=exH (w5.heap.size);obtain⟨W6,Am⟩:=exH (w5.alloc (.cells #[.string D,.string ⟨#[]⟩,iV z] 130));rw[<-Am.out,<-Aj.out];have AP:IsC W6 G6 (cC [(D,.empty,(z:Int))]) 130:=by rw[Am.out,Aj.out];exact IsC.new _ _ _
     have sc:Bl w5 W6:=by rw[Am.out];exact(bQ w5.heap.size w5).alloc (nR _) _
     have NG:g≠G6:=by rw[Aj.out];exact Nat.ne_of_lt (Gg.arr g rfl).1.lt
     have pu:=Gg.below sc;have BS:W6.cell? (aD q 1)=some (sL g 0 k.length (k.length+l.length)):=by rw[pu.box.cell];rfl
     refine s _ _ (fun _=>BS) ?_;clear s K2 qg;have lr:=cy.below sc;have AW:i<k.length:=by rw[HM.out.1];exact fk
     have nk:(takeAt (setN m c (r,a.take 3)) z (r,a.drop 3)).n b=some (2,k):=(aC _ _ EB).trans it;have QL:(dB E z G (some ga)).φ b=some q:=(aC _ _ EB).trans Hz;have hα6:(dB E z G (some ga)).α b=some g:=(aC _ _ EB).trans T4;refine oE 13 rfl fun K2 s=>?_;go_simp;refine(jX (some g) k l [(D,.empty,(z:Int))] (some ⟨G6,0,none⟩) 1 i1 W6 (fun x e=>by cases e;exact(pu.arr g rfl).1) (fun e=>by cases e) (.inr ⟨G6,0,1,[(D,.empty,(z:Int))],rfl,AP,by simp,by simp⟩) (fun gv o n c e e'=>by cases e;cases e';exact NG rfl) (by rw[ue.out];omega) (by simp) (by have:=HM.out.1;have:=HL.out;simp;omega) pu.small).mono ?_;rintro e w7 ⟨u,rfl,ep⟩;obtain⟨ua,un,uc,rfl⟩:∃ua un uc,u=.slice ua un uc:=by obtain⟨⟨a',j',e,_⟩,_⟩:=ep;exact⟨_,_,_,e⟩
     have pf:w7.cell? (aD q 1)=some (sL g 0 k.length (k.length+l.length)):=(dF (ep.ae.block q pu.box.lt (fun e=>(pu.arr q e).2 rfl)) 1).trans BS;obtain⟨a',-,o9,Bg,-,ye⟩:=lr.ins (w1:=w7) (u:=.slice ua un uc) nk QL (by rw[hα6];exact ep);have LU:k.take i1++[(D,.empty,(z:Int))]++k.drop i1=insE k (i+1) (D,.empty,(z:Int)):=by rw[ue.out];simp[insE]
     rw[LU]at o9;have my:setN (takeAt (setN m c (r,a.take 3)) z (r,a.drop 3)) b (2,insE k (i+1) (D,.empty,(z:Int)))=splitF m b k i c r a 3 z D:=rfl;rw[my]at o9;have Ex:b <(takeAt (setN m c (r,a.take 3)) z (r,a.drop 3)).c.length:=by
      have:b<m.c.length:=xm.lt b _ F
      simpa [takeAt,setN] using this
     have Br:Sz (K+10) (splitF m b k i c r a 3 z D):=(jx.takeAt (by omega) l2 (by have:=Q.out;simp;omega)).setN Ex (by have:=HM.out.1;have:=HL.out;simp only[insE,lP,List.length_take,List.length_cons,List.length_drop];omega);have VF:JS 13 f J (splitF m b k i c r a 3 z D) J5:=((S.js.trans Fr).trans (JS.setN _ (Fr.b5 b (M.js.b5 b sm)))).up (by omega);have Er:Tch c J5:=Fr.b5 c C5;have DL:(dR (dB E z G (some ga)) b a').φ c=some q3:=(aC _ _ zi).trans Bw;have hφz:(dR (dB E z G (some ga)) b a').φ z=some G:=aE _ _ _;have U1:AdS (fun _=>True) A (dR (dB E z G (some ga)) b a'):=(S.ad.trans ((AdS.put E z G (some ga)).trans (AdS.arr _ b a'))).up fun _ _=>trivial;have HF:=aA (show Dn 13 (fun _=>True) w ρ P A f J (w7.setCell (aD q 1) (.slice ua un uc)) (jI ρ5 a' b) (dR (dB E z G (some ga)) b a') (splitF m b k i c r a 3 z D) J5 from⟨o9,(Ef.trans (Mv.aa sc) (fun _ _ e=>e)).trans Bg (fun _ _ e=>e),VF,U1⟩);have HY:=aA (aI T (aI Er (aI Nc Br)));refine s _ _ (fun _=>pf) ?_;clear s K2 BS T Er Nc Br U1 VF o9 Bg my LU lr cy Ef o6 ez Jy av Bf S M Fr C0 Ag ep pu jo Gg AP jx xm;refine oE 14 rfl fun K2 s=>?_;go_simp;refine s _ _ (fun _=>pf) ?_;clear s K2;refine oE 15 rfl fun K2 s=>?_;go_simp;refine s _ _ (fun _=>pf) ?_;clear s K2;refine oE 16 rfl fun K2 s=>?_;go_simp;refine s _ _ (fun q=>absurd rfl q) ?_;clear s K2;refine aT (by kernel_rfl) ?_ _;by_cases N:kl key D=true
     ·have TN:Op.bytesLess key.toList D.toList=true:=N
      have HK:=aA N;clear N;go_wp2;go_ret;obtain⟨T,Er,Nc,Br⟩:=HY.out;rw[if_pos HK.out]at T;refine⟨fun q=>(by rw[T]at q;cases q),fun g' c' C=>?_⟩;rw[T]at C;cases C;exact⟨_,_,J5,q3,rfl,DL,HF.out,Er,Br⟩
     ·have TN:Op.bytesLess key.toList D.toList=false:=Bool.eq_false_iff.2 (show ¬Op.bytesLess key.toList D.toList=true from N)
      have HK:=aA N;clear N;go_wp2;go_ret;obtain⟨T,Er,Nc,Br⟩:=HY.out;rw[if_neg HK.out]at T;refine⟨fun q=>(by rw[T]at q;cases q),fun g' c' C=>?_⟩;rw[T]at C;cases C;exact⟨_,_,J5,G,rfl,hφz,HF.out,Nc,Br⟩
   ·have BD:decide (a.length=5)=false:=by simpa using pa
    have Q:=aA pa;clear pa Z;go_wp2_with fail;refine(nW q3 (r,a) _ I _ sx).mono ?_;rintro e O ⟨rfl,ci⟩;rw[ci];clear ci O;go_wp2;go_ret;refine⟨fun q=>(by rw[Ag.out,if_neg Q.out]at q;cases q),fun g' c' C=>?_⟩;rw[Ag.out,if_neg Q.out]at C;cases C;exact⟨ρ3,E,L,q3,rfl,Bw,⟨S.st,S.mv,S.js.up (by omega),S.ad⟩,C5,xm⟩)
