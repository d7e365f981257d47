import Derived.Test.YtaahkgkdpnnhhaaGreatHq1
set_option maxHeartbeats 9999999
set_option maxRecDepth 99999
set_option linter.all false
namespace Go.Proofs.YtaahkgkdpnnhhaaGreat
open Go.RowKit Fo
variable{A:Adr}{K:Int}{junk:List E3}{P b c q x:Nat}{ρ:Nat→Nat}{d:Nd}{a:Option Nat}{w:World}{f:fZ}
theorem dA{W:World}(h:W.heap[x]?=w.heap[x]?)(i:Nat):W.cell? ⟨x,i,none⟩=w.cell? ⟨x,i,none⟩:=by simp[World.cell?,h]
theorem St.rootCell{J:List aQ}(h:St w ρ P A f J){t:Nat}(ht:t<f.roots.length)(h0:0≤(f.roots.getD t (0,0)).2):w.cell? ⟨A.ra,t*2+1,none⟩=some (.int .i64 (aB f t))∧w.frozen? ⟨A.ra,t*2+1,none⟩=false:=by
 obtain⟨_,_,_,hR,_⟩:=id h;refine⟨?_,hR.hr.frozen _⟩;rw[hR.hr.cell,(lE (f.roots++A.rj) (i:=t) (by simp;omega)).2];have e1:(f.roots++A.rj).getD t (0,0)=f.roots.getD t (0,0):=by rw[gD,List.getElem?_append_left ht,←gD]
 rw[e1];simp only[aB];rw[show(((f.roots.getD t (0,0)).2.toNat:Nat):Int)=(f.roots.getD t (0,0)).2 by omega]
theorem aK.first(h:aK w q d a junk){g:Nat}(ha:a=Option.some g){n:Nat}(hn:d.2.length=n)(h0:0<n):w.cell? ⟨q,1,none⟩=Option.some (.slice (Option.some ⟨g,0,none⟩) n (n+junk.length))∧w.cell? ⟨g,0,none⟩=Option.some (.string (ky d.2 0)):=by
 subst ha;refine⟨by rw[h.box.cell];simp[adr,hn],?_⟩;have:=(bF (h.arr g rfl).1 (i:=0) (by simp;omega)).1;rw[gD,List.getElem?_append_left (by omega),←gD]at this;simpa [ky] using this
theorem aK.arrOf(h:aK w q d a junk)(h0:0<d.2.length):∃g,a=Option.some g:=by
 obtain⟨g,e,_⟩:=h.some h0;exact⟨g,e⟩
theorem iS(W:World)(k:ByteArray)(c:Int):(Instr.build 110 #[(0,.string k),(2,.int .i64 c)]).run Tryz.prog W=.ok (.agg #[.string k,.string .empty,.int .i64 c]) W:=by kernel_rfl
theorem aKM(W:World)(k0 v0 k1 v1:ByteArray)(c0 c1:Int):(Instr.buildSlice 106 2 #[(0,.agg #[.string k0,.string v0,.int .i64 c0]),(1,.agg #[.string k1,.string v1,.int .i64 c1])]).run Tryz.prog W=.ok (.slice (some ⟨W.heap.size,0,none⟩) 2 2) (W.alloc (.cells #[.string k0,.string v0,.int .i64 c0,.string k1,.string v1,.int .i64 c1] 110)):=by kernel_rfl
structure GrS(q g q1 g1:Nat)(p:Addr)(n c n1 c1:Nat)(k0 k1:ByteArray)(r:Nat)(w:World):Prop where
 a1:w.cell? ⟨q,1,none⟩=some (.slice (some ⟨g,0,none⟩) 3 c)
 a2:w.cell? ⟨g,0,none⟩=some (.string k0)
 a3:w.cell? p=some (.int .i64 r)
 a4:w.cell? ⟨q1,1,none⟩=some (.slice (some ⟨g1,0,none⟩) 2 c1)
 a5:w.cell? ⟨g1,0,none⟩=some (.string k1)
structure GrP(w:World)(ρ:Nat→Nat)(P:Nat)(A:Adr)(f:fZ)(J:List aQ)(t r:Nat)(K:Int)(e:Ending)(w':World):Prop where
 no:bM f t r=none→Pk 2 w ρ P f J e w'
 yes:∀g top,bM f t r=some (g,top)→∃ρ' A' J' q,e=.returned (.pointer (some ⟨q,0,none⟩))∧A'.φ top=some q∧Dn 2 (fun _=>True) w ρ P A f J w' ρ' A' g J'∧Tch top J'∧Sz K g
theorem yR(w:World)(ρ:Nat→Nat)(P:Nat)(A:Adr)(f:fZ)(J:List aQ)(t r:Nat)(k:Int)(es:List E3)(h:St w ρ P A f J)(hI:IC f)(hz:Sz K f)(sw:1≤K)(hK:K≤800000)(ku:J.length≤700000)(ht:t<f.roots.length)(hr:aB f t=r)(hd:f.nodes r=some (k,es))(h5:es.length=5)(qv:Tch r J):
  Calls Tryz.prog 117 #[.pointer (some ⟨P,0,none⟩),.pointer (some ⟨A.ra,t*2+1,none⟩)] w (GrP w ρ P A f J t r K):=by
 have qu:r<f.cur.length:=hz.lt r _ hd;have h0:0≤(f.roots.getD t (0,0)).2:=(hI.rb _ (aO ht)).1;obtain⟨zc,-⟩:=h.rootCell ht h0;rw[hr]at zc;obtain⟨ja,jp,jj,hR,hJ⟩:=id h;have m3:=hR.cells.m3;obtain⟨q,junk,hφ,ww,wu,hN⟩:=h.getNode hd;obtain⟨g,hg⟩:=hN.arrOf (by simp;omega);rw[hg]at hN;have gx:∀n,(Instr.lookup 68 (.map (some A.m)) (.int .i64 r) false).run Tryz.prog (w.drewN n)=.ok (.pointer (some ⟨q,0,none⟩)) (w.drewN n):=fun n=>by
  have:=(hR.hm.of (w':=w.drewN n) rfl).lookup r (by have:=hz.n512;omega)
  rw[hφ]at this;simpa only[eT,Option.map_some] using this
 have Gj:=iS;have ll:=aKM;have sm:=gR;have HR:=aA (aI hr h5);clear hr h5;go_enter Tryz.func117,Tryz.ntmps117;go_wp2;go_quiet (fail);clear gx m3 zc;go_wp2_with fail;refine(oD q g k es junk _ (hN.below (below_drewN _ _)) (by have:=HR.out.2;omega) (by have:=HR.out.2;omega)).mono ?_;rintro e w1 ⟨q1,a1,j1,junk1,rfl,k1,k2,k3,k4,kF⟩;have kF':Frm (fun x=>x=q∨A.α r=some x) w w1:=(Frm.of_below (below_drewN _ _)).trans (kF.wide fun x _ e=>by rcases e with e | e;exact .inl e;right;rw[hg,e]);have e53:es.length-2=3:=by have:=HR.out.2;omega
 rw[e53]at k3 k4;obtain⟨br,DI⟩:=h.nodeSame hd hφ kF' (by rw[hg];exact k4);have C4:w.heap.size≤q1:=k1;have FM:∀x,w.heap.size≤x→ρ x=0:=fun x hx=>Nat.eq_zero_of_not_pos fun q=>absurd (hR.own x (by omega)) (by omega);have gh:Sz K (setN f r (k,es.take 3)):=hz.setN qu (by simp;omega);have oy:JS 0 f J (setN f r (k,es.take 3)) J:=JS.setN _ qv;obtain⟨g1,iv⟩:=k3.arrOf (by have:=HR.out.2;simp;omega);subst iv;have k2':w.heap.size≤g1:=k2 g1 rfl;have Ju:Fo.look f r=(k,es):=aE hd;go_wp2_with fail;refine(oI w1 ρ P A _ J q1 (k,es.drop 3) (some g1) j1 br gh (by omega) (by omega) k3 (FM q1 C4) (fun x e=>by cases e;exact FM g1 k2')).mono ?_;intro e w2 hT;by_cases hl:aF f=0
 ·obtain⟨rfl,db⟩:=hT.no hl
  have al:bM f t r=none:=by unfold bM;rw[if_pos hl]
  exact⟨rfl,fun _=>⟨rfl,ρ,A,_,J,br.below db,DI.trans (Mv.of_below db) (fun _ _ e=>e),oy.up (by omega)⟩,fun g c bp=>by rw[al]at bp;cases bp⟩
 ·obtain⟨he,ρ2,ax,li,-⟩:=hT.yes hl
  have ul:aF (setN f r (k,es.take 3))=aF f:=rfl;rw[ul]at he ax;subst he;obtain⟨l1,l2,l3,l4⟩:=aR hl;have dh:f.nodes (aF f)=none:=(hI.dom.dead _).2 l3;have HG:Hid (bM f t r=if aF (takeAt (setN f r (k,es.take 3)) (aF f) (k,es.drop 3))=0 then none else some (growF f t r k es 3 (aF f) (aF (takeAt (setN f r (k,es.take 3)) (aF f) (k,es.drop 3))) (ky es 0) (ky es 3),aF (takeAt (setN f r (k,es.take 3)) (aF f) (k,es.drop 3)))):=by
   show bM f t r=_
   unfold bM;rw[if_neg hl,Ju]
  generalize aF f=z at *;have NJ:r≠z:=fun e=>by rw[e,dh]at hd;cases hd
  have qy:Mv (fun _=>False) w ρ w2 ρ2:=((DI.up (Y:=fun x=>x=q1∨some g1=some x) (fun _ _ e=>e.elim)).trans li (fun _ _ e=>e)).up fun x hx e=>by
   rcases e with e | e
   ·omega
   ·cases e;omega
  have Af:Sz K (takeAt (setN f r (k,es.take 3)) z (k,es.drop 3)):=gh.takeAt sw l2 (by simp;omega);have sy:(takeAt (setN f r (k,es.take 3)) z (k,es.drop 3)).nodes r=some (k,es.take 3):=by
   show upd (upd f.nodes r _) z _ r=_
   rw[aC _ _ NJ,aD]
  have Mb:(takeAt (setN f r (k,es.take 3)) z (k,es.drop 3)).nodes z=some (k,es.drop 3):=aD _ _ _;obtain⟨jg,Je⟩:=ax.rootCell (t:=t) ht h0;rw[show aB (takeAt (setN f r (k,es.take 3)) z (k,es.drop 3)) t=r from HR.out.1,show(cV A z q1 (some g1)).ra=A.ra from rfl]at jg;obtain⟨q',junk2,u1,-,-,u2⟩:=ax.getNode sy;have u3:(cV A z q1 (some g1)).φ r=some q:=by show upd A.φ z _ r=_;rw[aC _ _ NJ];exact hφ
  rw[u3]at u1;cases u1;have u4:(cV A z q1 (some g1)).α r=some g:=by show upd A.α z _ r=_;rw[aC _ _ NJ];exact hg
  obtain⟨q1',junk3,v1,-,-,v2⟩:=ax.getNode Mb;have v3:(cV A z q1 (some g1)).φ z=some q1:=aD _ _ _;rw[v3]at v1;cases v1;have v4:(cV A z q1 (some g1)).α z=some g1:=aD _ _ _;have f1:=u2.first u4 (n:=3) (by have:=HR.out.2;simp;omega) (by omega);have f2:=v2.first v4 (n:=2) (by have:=HR.out.2;simp;omega) (by omega);have ek0:ky (es.take 3) 0=ky es 0:=by unfold ky;simp[gD,List.getElem?_take]
  have ek1:ky (es.drop 3) 0=ky es 3:=by unfold ky;simp[gD]
  rw[ek0]at f1;rw[ek1]at f2;have ai:∀x,(x=q∨x=g∨x=A.ra∨x=q1∨x=g1)→x<w2.heap.size:=fun x hx=>by
   obtain⟨_,_,_,gi,_⟩:=id ax;rcases hx with e | e | e | e | e<;>rw[e]
   ·exact u2.box.lt
   ·exact(u2.arr g u4).1.lt
   ·exact gi.hr.lt
   ·exact v2.box.lt
   ·exact(v2.arr g1 v4).1.lt
  have HS:Hid (∀W:World,(∀x,(x=q∨x=g∨x=A.ra∨x=q1∨x=g1)→W.heap[x]?=w2.heap[x]?)→GrS q g q1 g1 ⟨A.ra,t*2+1,none⟩ 3 (3+junk2.length) 2 (2+junk3.length) (ky es 0) (ky es 3) r W):=fun W hW=>
   ⟨(dA (hW _ (by simp)) _).trans f1.1,(dA (hW _ (by simp)) _).trans f1.2,(dA (hW _ (by simp)) _).trans jg,(dA (hW _ (by simp)) _).trans f2.1,(dA (hW _ (by simp)) _).trans f2.2⟩
  have am:=HS.out w2.drew (fun _ _=>rfl);obtain⟨f2',Fy⟩:∃f2',f2'=takeAt (setN f r (k,es.take 3)) z (k,es.drop 3):=⟨_,rfl⟩;have sg:=aA Fy;have nu:JS 1 f J f2' (J++[(z,cu (setN f r (k,es.take 3)) z,(setN f r (k,es.take 3)).nodes z)]):=by rw[Fy];exact(oy.trans (JS.save l2)).trans (JS.takeAt _ Tch.saved)
  rw[←Fy]at ax Af HG;generalize J++[(z,cu (setN f r (k,es.take 3)) z,(setN f r (k,es.take 3)).nodes z)]=J2 at *;obtain⟨c2,AG⟩:∃c2,c2=3+junk2.length:=⟨_,rfl⟩;obtain⟨c3,JC⟩:∃c3,c3=2+junk3.length:=⟨_,rfl⟩;rw[←AG,←JC]at HS am;obtain⟨y0,R7⟩:∃y0,y0=ky es 0:=⟨_,rfl⟩;obtain⟨y1,R8⟩:∃y1,y1=ky es 3:=⟨_,rfl⟩;rw[←R7,←R8]at HS am HG;have HL:=aA ai;clear Fy AG JC R7 R8 f1 f2 jg u2 v2 sy Mb hT li br DI k3 k4 kF kF' hN ai Je ek0 ek1 u3 v3 e53;go_wp2;refine bA (GrS q g q1 g1 ⟨A.ra,t*2+1,none⟩ 3 c2 2 c3 y0 y1 r) 27 (by kernel_rfl) ?_;refine tJ 0 21 (.pointer (some ⟨A.ra,t*2+1,none⟩)) rfl am ?_;simp only[Act.put,sB,sZ,sS];refine tJ 1 22 (.pointer (some ⟨P,0,none⟩)) rfl am ?_;simp only[Act.put,sB,sZ,sS];refine tJ 2 23 (.pointer (some ⟨q,0,none⟩)) rfl am ?_;simp only[Act.put,sB,sZ,sS];refine tJ 3 24 (.pointer (some ⟨q,0,none⟩)) rfl am ?_;simp only[Act.put,sB,sZ,sS];refine tJ 4 25 (.pointer (some ⟨q,1,none⟩)) rfl am ?_;simp only[Act.put,sB,sZ,sS];refine tJ 5 26 (.slice (some ⟨g,0,none⟩) 3 c2) rfl am ?_;simp only[Act.put,sB,sZ,sS];refine tJ 6 27 (.pointer (some ⟨g,0,none⟩)) rfl am ?_;simp only[Act.put,sB,sZ,sS];refine tJ 7 28 (.pointer (some ⟨g,0,none⟩)) rfl am ?_;simp only[Act.put,sB,sZ,sS];refine tJ 8 29 (.string y0) rfl am ?_;simp only[Act.put,sB,sZ,sS];refine tJ 9 30 (.pointer (some ⟨A.ra,t*2+1,none⟩)) rfl am ?_;simp only[Act.put,sB,sZ,sS];refine tJ 10 31 (.pointer (some ⟨A.ra,t*2+1,none⟩)) rfl am ?_;simp only[Act.put,sB,sZ,sS];refine tJ 11 32 (.int .i64 r) rfl am ?_;simp only[Act.put,sB,sZ,sS];refine tJ 12 33 (.agg #[.string y0,.string .empty,.int .i64 r]) rfl am ?_;simp only[Act.put,sB,sZ,sS];refine tJ 13 34 (.pointer (some ⟨q1,0,none⟩)) rfl am ?_;simp only[Act.put,sB,sZ,sS];refine tJ 14 35 (.pointer (some ⟨q1,0,none⟩)) rfl am ?_;simp only[Act.put,sB,sZ,sS];refine tJ 15 36 (.pointer (some ⟨q1,1,none⟩)) rfl am ?_;simp only[Act.put,sB,sZ,sS];refine tJ 16 37 (.slice (some ⟨g1,0,none⟩) 2 c3) rfl am ?_;simp only[Act.put,sB,sZ,sS];refine tJ 17 38 (.pointer (some ⟨g1,0,none⟩)) rfl am ?_;simp only[Act.put,sB,sZ,sS];refine tJ 18 39 (.pointer (some ⟨g1,0,none⟩)) rfl am ?_;simp only[Act.put,sB,sZ,sS];refine tJ 19 40 (.string y1) rfl am ?_;simp only[Act.put,sB,sZ,sS];refine tJ 20 41 (.int .i64 z) rfl am ?_;simp only[Act.put,sB,sZ,sS];refine tJ 21 42 (.agg #[.string y1,.string .empty,.int .i64 z]) rfl am ?_;simp only[Act.put,sB,sZ,sS];obtain⟨G3,Ow⟩:=exH (w2.heap.size);refine oE 22 rfl fun K2 ae=>?_;go_simp;obtain⟨W3,PF⟩:=exH ((w2.alloc (.cells #[.string y0,.string .empty,.int .i64 r,.string y1,.string .empty,.int .i64 z] 110)).drew);rw[←PF.out,←Ow.out];have qz:IsC W3 G3 (bW [(y0,.empty,(r:Int)),(y1,.empty,(z:Int))]) 110:=by rw[PF.out,Ow.out];exact(IsC.new w2 _ _).drew
  have fk:Bl w2 W3:=by rw[PF.out];exact((bQ w2.heap.size w2).alloc (nR _) _).drew
  have rk:=HS.out W3 fun x hx=>fk.block x (HL.out x hx);refine ae _ _ (fun _=>rk) ?_;clear ae K2 am;refine oE 23 rfl fun K2 ae=>?_;go_simp;refine ae _ _ (fun _=>rk) ?_;clear ae K2;refine oE 24 rfl fun K2 ae=>?_;go_simp;obtain⟨Q4,Nz⟩:=exH (W3.heap.size);obtain⟨W4,GX⟩:=exH (W3.alloc (.cells #[.int .i64 2,.slice (some ⟨G3,0,none⟩) 2 2] 108));rw[←GX.out,←Nz.out];have dq:Bl w2 W4:=by rw[GX.out];exact fk.alloc fk.size _
  have EZ:=HS.out W4 fun x hx=>dq.block x (HL.out x hx);have Dp:aK W4 Q4 (2,[(y0,.empty,(r:Int)),(y1,.empty,(z:Int))]) (some G3) []:=by
   refine⟨?_,fun x e=>?_,fun e=>(by cases e),by simp[maxLen]⟩
   ·rw[GX.out,Nz.out];exact IsC.new _ _ _
   ·cases e
    refine⟨?_,?_⟩
    ·rw[GX.out];simpa using qz.alloc _
    ·rw[Nz.out];exact Nat.ne_of_lt qz.lt
  have Vf:w2.heap.size≤Q4:=by rw[Nz.out];exact fk.size
  have VS:w2.heap.size≤G3:=by rw[Ow.out];exact nR _
  refine ae _ _ (fun _=>EZ) ?_;clear ae K2 rk;have aw:=ax.below dq;have UJ:∀x,w2.heap.size≤x→ρ2 x=0:=fun x hx=>Nat.eq_zero_of_not_pos fun q=>by
   obtain⟨_,_,_,gi,_⟩:=id ax;exact absurd (gi.own x (by omega)) (by omega)
  have VU:J2.length≤700001:=by have:=nu.len;omega
  refine oE 25 rfl fun K2 ae=>?_;go_simp;refine(oI W4 ρ2 P (cV A z q1 (some g1)) f2' J2 Q4 _ (some G3) [] aw Af (by omega) (by omega) Dp (UJ _ Vf) (fun x e=>by cases e;exact UJ _ VS)).mono ?_;intro e w5 hT;by_cases Gx:aF f2'=0
  ·obtain⟨rfl,qx⟩:=hT.no Gx
   have al:bM f t r=none:=by rw[HG.out,if_pos Gx]
   exact⟨rfl,fun _=>⟨rfl,ρ2,_,f2',J2,aw.below qx,(qy.trans (Mv.of_below dq) (fun _ _ e=>e)).trans (Mv.of_below qx) (fun _ _ e=>e),nu.up (by omega)⟩,fun g c bp=>by rw[al]at bp;cases bp⟩
  ·obtain⟨rfl,ρ5,cq,ng,er⟩:=hT.yes Gx
   have al:bM f t r=some (growF f t r k es 3 z (aF f2') y0 y1,aF f2'):=by rw[HG.out,if_neg Gx]
   obtain⟨n1,n2,n3,n4⟩:=aR Gx;have Ev:JS 2 f J (takeAt f2' (aF f2') (2,[(y0,.empty,(r:Int)),(y1,.empty,(z:Int))])) (J2++[(aF f2',cu f2' (aF f2'),f2'.nodes (aF f2'))]):=(nu.trans (JS.save n2)).trans (JS.takeAt _ Tch.saved);have Ii:Tch (aF f2') (J2++[(aF f2',cu f2' (aF f2'),f2'.nodes (aF f2'))]):=Tch.saved;have Ag:Sz K (takeAt f2' (aF f2') (2,[(y0,.empty,(r:Int)),(y1,.empty,(z:Int))])):=Af.takeAt sw n2 (by simp);have d5:∀x,x<w2.heap.size→ρ2 x≠1→ρ2 x≠6→ρ2 x≠3→ρ2 x≠4→w5.heap[x]?=w2.heap[x]?:=fun x hx e1 e2 e3 e4=>(er.block x (lL hx dq.size) (by omega)).trans (dq.block x hx);generalize J2++[(aF f2',cu f2' (aF f2'),f2'.nodes (aF f2'))]=J5 at *;generalize aF f2'=top at *;have Do:Mv (fun _=>False) w ρ w5 ρ5:=(((qy.trans (Mv.of_below dq) (fun _ _ e=>e)).up (Y:=fun x=>x=Q4∨some G3=some x) (fun _ _ e=>e.elim)).trans ng (fun _ _ e=>e)).up fun x hx e=>by
    have:=qy.frm.size
    rcases e with e | e
    ·omega
    ·cases e;omega
   have ez:(takeAt f2' top (2,[(y0,.empty,(r:Int)),(y1,.empty,(z:Int))])).roots=f.roots:=by show f2'.roots=_;rw[sg.out];rfl
   obtain⟨EH,Mg⟩:=cq.rootCell (t:=t) (by rw[ez];exact ht) (by rw[ez];exact h0);have fl:aB (takeAt f2' top (2,[(y0,.empty,(r:Int)),(y1,.empty,(z:Int))])) t=r:=by unfold aB;rw[ez];exact HR.out.1
   rw[fl,show(cV (cV A z q1 (some g1)) top Q4 (some G3)).ra=A.ra from rfl]at EH;rw[show(cV (cV A z q1 (some g1)) top Q4 (some G3)).ra=A.ra from rfl]at Mg;have OG:dO (takeAt f2' top (2,[(y0,.empty,(r:Int)),(y1,.empty,(z:Int))])) (.root t):=by show t<_;rw[ez];exact ht
   obtain⟨kv,BM⟩:=cq.setLoc OG (p:=⟨A.ra,t*2+1,none⟩) rfl top;have Hn:=Ag.setL OG top;have Pg:=Ev.trans (JS.setL (.root t) top fun b i e=>(by cases e));have At:setL (takeAt f2' top (2,[(y0,.empty,(r:Int)),(y1,.empty,(z:Int))])) (.root t) top=growF f t r k es 3 z top y0 y1:=by rw[sg.out];rfl
   rw[At]at kv Hn Pg;have c9:ρ2 q=cE r∧ρ2 g=cB r∧ρ2 A.ra=2∧ρ2 q1=cE z∧ρ2 g1=cB z:=by
    obtain⟨_,_,_,gi,_⟩:=id ax;obtain⟨x1,y1',z1,z2,z3,-⟩:=ax.getNode (b:=r) (d:=(k,es.take 3)) (by rw[sg.out];show upd (upd f.nodes r _) z _ r=_;rw[aC _ _ NJ,aD]);obtain⟨x2,y2',v1,v2,v3,-⟩:=ax.getNode (b:=z) (d:=(k,es.drop 3)) (by rw[sg.out];exact aD _ _ _);have u3:(cV A z q1 (some g1)).φ r=some q:=by show upd A.φ z _ r=_;rw[aC _ _ NJ];exact hφ
    rw[u3]at z1;cases z1;rw[show(cV A z q1 (some g1)).φ z=some q1 from aD _ _ _]at v1;cases v1;exact⟨z2,z3 g u4,gi.rr,v2,v3 g1 v4⟩
   have oe:=HS.out w5 fun x hx=>by
    obtain⟨o1,o2,o3,o4,o5⟩:=c9;refine d5 x (HL.out x hx) ?_ ?_ ?_ ?_<;>(rcases hx with e | e | e | e | e<;>rw[e]<;>first | rw[o1] | rw[o2] | rw[o3] | rw[o4] | rw[o5])<;>first | omega | (unfold cE;omega) | (unfold cB;omega)
   have Of:(cV (cV A z q1 (some g1)) top Q4 (some G3)).φ top=some Q4:=aD _ _ _;obtain⟨ja6,jp6,jj6,DM,Ph⟩:=id kv;have o3:=DM.cells.m3;rw[show(cV (cV A z q1 (some g1)) top Q4 (some G3)).m=A.m from rfl]at o3;have NC:aB (growF f t r k es 3 z top y0 y1) t=top:=by
    rw[←At];exact(jJ OG top).1
   have NE:(growF f t r k es 3 z top y0 y1).roots.length=f.roots.length:=by rw[←At];show(List.set _ _ _).length=_;rw[List.length_set,ez]
   have MC:((growF f t r k es 3 z top y0 y1).roots.getD t (0,0)).2=(top:Int):=by
    rw[←At];show((List.set _ t _).getD t (0,0)).2=_
    rw[bB _ _ _ _ _ (by rw[ez];exact ht),if_pos rfl]
   have YA:(w5.setCell ⟨A.ra,t*2+1,none⟩ (.int .i64 (top:Int))).cell? ⟨A.ra,t*2+1,none⟩=some (.int .i64 (top:Int)):=by
    have h6:=(kv.rootCell (t:=t) (by rw[NE];exact ht) (by rw[MC];omega)).1;rw[NC]at h6;exact h6
   have Wi:∀n,(Instr.lookup 68 (.map (some A.m)) (.int .i64 top) false).run Tryz.prog ((w5.setCell ⟨A.ra,t*2+1,none⟩ (.int .i64 (top:Int))).drewN n)=.ok (.pointer (some ⟨Q4,0,none⟩)) ((w5.setCell ⟨A.ra,t*2+1,none⟩ (.int .i64 (top:Int))).drewN n):=fun n=>by
    have:=(DM.hm.of (w':=(w5.setCell ⟨A.ra,t*2+1,none⟩ (.int .i64 (top:Int))).drewN n) rfl).lookup top (by have:=Hn.n512;have:=n2;have:=Af.n512;omega)
    rw[Of]at this;rw[show(cV (cV A z q1 (some g1)) top Q4 (some G3)).m=A.m from rfl]at this;simpa only[eT,Option.map_some] using this
   have HF:=aA (show Dn 2 (fun _=>True) w ρ P A f J (w5.setCell ⟨A.ra,t*2+1,none⟩ (.int .i64 (top:Int))) ρ5 (cV (cV A z q1 (some g1)) top Q4 (some G3)) (growF f t r k es 3 z top y0 y1) J5∧Tch top J5∧Sz K (growF f t r k es 3 z top y0 y1)from⟨⟨kv,Do.trans BM (fun _ _ e=>e),Pg.up (by omega),⟨rfl,rfl,rfl,rfl,rfl,rfl,rfl,fun _ q=>absurd trivial q,fun _ q=>absurd trivial q⟩⟩,Ii,Hn⟩);have CB:=aA al;refine ae _ _ (fun _=>oe) ?_;clear ae K2 EZ al kv BM Hn Pg At NC NE MC DM Ph cq ng er Ev Ii Ag d5 Do ez fl OG c9 hT ax aw qy Af nu HG;refine oE 26 rfl fun K2 ae=>?_;go_simp;refine ae _ _ (fun _=>oe) ?_;clear ae K2;refine oE 27 rfl fun K2 ae=>?_;go_simp;refine ae _ _ (fun q=>absurd rfl q) ?_;clear ae K2;refine aW (by kernel_rfl) ?_ _;go_wp2;go_quiet (fail);go_wp2;go_ret;obtain⟨py,BP,i5⟩:=HF.out;refine⟨fun q=>(by rw[CB.out]at q;cases q),fun g c bp=>?_⟩;rw[CB.out]at bp;cases bp;exact⟨ρ5,_,J5,Q4,rfl,Of,py.below (below_drewN _ _),BP,i5⟩
theorem aFA(h:f.nodes b=some d):setN f b d=f:=by
 have:upd f.nodes b (some d)=f.nodes:=funext fun x=>by by_cases e:x=b<;>simp[upd,e,h]
 unfold setN;rw[this]
theorem qP(W:World)(k0 v0:ByteArray)(c0:Int):(Instr.buildSlice 106 1 #[(0,.agg #[.string k0,.string v0,.int .i64 c0])]).run Tryz.prog W=.ok (.slice (some ⟨W.heap.size,0,none⟩) 1 1) (W.alloc (.cells #[.string k0,.string v0,.int .i64 c0] 110)):=by kernel_rfl
theorem St.ins{w1:World}{J:List aQ}(h:St w ρ P A f J){k:Int}{es ls:List E3}(hb:f.nodes b=some (k,es))(hφ:A.φ b=some q){u:Value}(hI:xQ w w1 (A.α b) u ls):
  ∃a',(∃g,a'=some g)∧St (w1.setCell ⟨q,1,none⟩ u) (jA ρ a' b) P (dL A b a') (setN f b (k,ls)) J∧Mv (fun _=>False) w ρ (w1.setCell ⟨q,1,none⟩ u) (jA ρ a' b)∧(∃c,w1.cell? ⟨q,1,none⟩=some c)∧w1.frozen? ⟨q,1,none⟩=false:=by
 obtain⟨⟨a',junk',rfl,h1,h2,h3⟩,hF⟩:=hI;obtain⟨q',junk,e1,e2,e3,e4⟩:=h.getNode hb;rw[hφ]at e1;cases e1;have rh:IsC w1 q _ _:=e4.box.frm hF (fun e=>(e4.arr q e).2 rfl);have av:∀g,a'=some g→g≠q:=fun g e=>by
  rcases(h1 g e).2 with e' | e'
  ·exact(e4.arr g e').2
  ·have:=e4.box.lt;omega
 have du:Frm (fun x=>x=q∨A.α b=some x) w (w1.setCell ⟨q,1,none⟩ (.slice (adr a') ls.length (ls.length+junk'.length))):=(hF.wide fun x _ e=>.inr e).trans (Frm.set w1 (p:=⟨q,1,none⟩) (.inl rfl) _);have hN:aK (w1.setCell ⟨q,1,none⟩ (.slice (adr a') ls.length (ls.length+junk'.length))) q (k,ls) a' junk':=by
  refine⟨?_,fun g e=>⟨(h1 g e).1.set_ne _ (av g e),av g e⟩,fun e=>absurd e h2,h3⟩;have:=rh.set 1 (.slice (adr a') ls.length (ls.length+junk'.length));simpa using this
 have:=h.node hb hφ du hN (fun g e=>(h1 g e).2)
 refine⟨a',?_,this.1,this.2,⟨_,rh.c rfl⟩,rh.frozen 1⟩;cases a' with
 | none=>exact absurd rfl h2
 | some g=>exact⟨g,rfl⟩
structure DnP(w:World)(ρ:Nat→Nat)(P:Nat)(A:Adr)(f:fZ)(J:List aQ)(b:Nat)(key:ByteArray)(K:Int)(e:Ending)(w':World):Prop where
 no:stepDown f b key=none→Pk 13 w ρ P f J e w'
 yes:∀g c,stepDown f b key=some (g,c)→∃ρ' A' J' q,e=.returned (.pointer (some ⟨q,0,none⟩))∧A'.φ c=some q∧Dn 13 (fun _=>True) w ρ P A f J w' ρ' A' g J'∧Tch c J'∧Sz (K+10) g
theorem AdS.top{X:Nat→Prop}{A':Adr}(h:AdS X A A'):AdS (fun _=>True) A A':=h.up fun _ _=>trivial
theorem aAB(w:World)(ρ:Nat→Nat)(P:Nat)(A:Adr)(f:fZ)(J:List aQ)(t H:Nat)(Pt:List Nat)(b h:Nat)(lo hi:OB)(key:ByteArray)(q:Nat)(sb:St w ρ P A f J)(hW:Wk f t H)(hp:aN f t H Pt b (h+1) lo hi)(mw:loR lo key)(h5:sz f.nodes b<5)(hφ:A.φ b=some q)(hz:Sz K f)(sw:1≤K)(hK:K≤700000)(ku:J.length≤600000)(qv:Tch b J):
  Calls Tryz.prog 118 #[.pointer (some ⟨P,0,none⟩),.pointer (some ⟨q,0,none⟩),.string key] w (DnP w ρ P A f J b key K):=by
 obtain⟨es,af,so,av⟩:=hp.inner hW;have h0:0<es.length:=List.length_pos_iff.2 av;have Ag:es.length<5:=by unfold sz at h5;rw[af]at h5;exact h5
 obtain⟨w1,p1,-⟩:=hW.lowKey hp af key mw;have d9:b<f.cur.length:=hz.lt b _ af;obtain⟨q',junk,e1,ww,wu,hN⟩:=sb.getNode af;rw[hφ]at e1;cases e1;obtain⟨g,hg⟩:=hN.arrOf h0;rw[hg]at hN;obtain⟨f1,f2⟩:=hN.first rfl rfl h0;simp only at f1 f2;obtain⟨es1,FP⟩:=exH (lowK es key);have ee:es1.length=es.length:=by rw[FP.out];exact cI es key
 have lw:es1≠[]:=fun e=>av (List.length_eq_zero_iff.1 (by rw[←ee,e];rfl));rw[←FP.out]at w1 p1;have ew:(setN f b (2,es1)).nodes b=some (2,es1):=aD _ _ _;obtain⟨_,q1,yj,_⟩:=p1.inner w1;rw[ew]at q1;cases q1;have jd:bK es1 key<es1.length:=eB key lw;have gh:Sz K (setN f b (2,es1)):=hz.setN d9 (by simp only;omega);have HD:Hid (stepDown f b key=match shadow (setN f b (2,es1)) (.ent b (bK es1 key))with
  | none=>none
  | some (g,c)=>
   if(Fo.look g c).2.length=5 then
    if aF g=0 then none else
     some (splitF g b (Fo.look g b).2 (bK es1 key) c (Fo.look g c).1 (Fo.look g c).2 3 (aF g) (ky (Fo.look g c).2 3),if kl key (ky (Fo.look g c).2 3)=true then c else aF g)
   else some (g,c)):=by
  show stepDown f b key=_
  unfold stepDown;rw[aE af,FP.out];rfl
 have Gj:=iS;have ll:=qP;have HL:=aA ee;have WP:=(hN.arr g rfl).1.frozen 0;have Mo:((bK es1 key:Nat):Int) <(es1.length:Int):=by omega
 have Sm:0 <(es.length:Int):=by omega
 have lv:es.length+junk.length≤maxLen:=hN.small;go_enter Tryz.func118,Tryz.ntmps118;by_cases mu:kl key (ky es 0)=true
 case' pos=>
  have ai:Op.bytesLess key.toList (ky es 0).toList=true:=mu;have fw:es1=es.set 0 (key,(es.getD 0 e0).2):=by rw[FP.out];unfold lowK;rw[if_pos mu]
  have y8:aK (w.setCell ⟨g,0,none⟩ (.string key)) q (2,es1) (some g) junk:=by
   have:=hN.setc (i:=0) (j:=0) (v:=.string key) (e':=(key,(es.getD 0 e0).2)) h0 (by omega) (by simp[aJ])
   rw[fw];simpa using this
  obtain⟨br,DI⟩:=sb.nodeSame (w':=w.setCell ⟨g,0,none⟩ (.string key)) af hφ (Frm.set w (p:=⟨g,0,none⟩) (.inr hg) _) (by rw[hg];exact y8);clear mu fw ee;go_wp2_with fail;refine(gT q (2,es1) (some g) junk key _ y8 yj.srt (by have:=HL.out;simp only;omega)).mono ?_;rintro e w2 ⟨rfl,db⟩
 case' neg=>
  have ai:Op.bytesLess key.toList (ky es 0).toList=false:=Bool.eq_false_iff.2 (show ¬Op.bytesLess key.toList (ky es 0).toList=true from mu);have fw:es1=es:=by rw[FP.out];unfold lowK;rw[if_neg mu]
  have y8:aK w q (2,es1) (some g) junk:=by rw[fw];exact hN
  have br:St w ρ P A (setN f b (2,es1)) J:=by rw[fw,aFA af];exact sb
  have DI:Mv (fun _=>False) w ρ w ρ:=Mv.refl _ _ _;clear mu fw ee;go_wp2_with fail;refine(gT q (2,es1) (some g) junk key _ y8 yj.srt (by have:=HL.out;simp only;omega)).mono ?_;rintro e w2 ⟨rfl,db⟩
 all_goals (
  have ax:=br.below db;have li:Mv (fun _=>False) w ρ w2 ρ:=DI.trans (Mv.of_below db) (fun _ _ e=>e);have sa:=y8.below db;clear br DI y8 db;have c2:w2.cell? ⟨q,1,none⟩=some (.slice (some ⟨g,0,none⟩) es1.length (es1.length+junk.length)):=by rw[sa.box.cell];rfl
  have oy:JS 0 f J (setN f b (2,es1)) J:=JS.setN _ qv;clear f1 f2 hN;generalize hI:bK es1 key=i at *;have BL:dO (setN f b (2,es1)) (.ent b i):=⟨d9,es1,ew,jd⟩;have BK:gS A (.ent b i) ⟨g,i*3+2,none⟩:=⟨g,hg,rfl⟩;go_wp2_with fail;refine(iE w2 ρ P A (setN f b (2,es1)) J (.ent b i) ⟨g,i*3+2,none⟩ ax w1.ic gh sw (by omega) (by omega) BL BK (fun b' i' e=>by cases e;exact qv)).mono ?_;intro e w3 hT;cases al:shadow (setN f b (2,es1)) (.ent b i)with
  | none=>
   obtain⟨rfl,ρ3,A3,g3,J3,a1,a2,a3⟩:=hT.no al;have kq:stepDown f b key=none:=by rw[HD.out,al]
   exact⟨rfl,fun _=>⟨rfl,ρ3,A3,g3,J3,a1,li.trans a2 (fun _ _ e=>e),(oy.trans a3).up (by omega)⟩,fun g c bp=>by rw[kq]at bp;cases bp⟩
  | some gc=>
   obtain⟨g1,c⟩:=gc;obtain⟨ρ3,A3,J3,q3,rfl,Az,bg,CK,vq⟩:=hT.yes g1 c al;obtain⟨w2',p2,p3,⟨es2,m1,m2,m3,m4⟩,m5,m6,m7,m8,m9⟩:=w1.shadow_ent p1 ew jd al;obtain⟨⟨kc,ces⟩,hd⟩:=w2'.ic.live (x:=c) (by rw[m6];omega);have au:ces.length≤5:=by
    obtain⟨d',d1,_,d2,_⟩:=((p3.ok w2'.ok).1).sz_pos;rw[hd]at d1;cases d1;exact d2
   have nz:b≠c:=fun e=>by
    have hk:c∈kids (2,es2):=by rw[←m4];exact aP (by rw[m2];exact jd)
    rw[←e]at hk;exact w2'.ic.not_self m1 hk
   obtain⟨q3',junk3,e1,UL,Nk,qz⟩:=bg.st.getNode hd;rw[Az]at e1;cases e1;have Ca:Hid (stepDown f b key=if ces.length=5 then if aF g1=0 then none else some (splitF g1 b es2 i c kc ces 3 (aF g1) (ky ces 3),if kl key (ky ces 3)=true then c else aF g1)else some (g1,c)):=by
    have:=HD.out
    rw[al]at this;simp only[aE hd,aE m1]at this;exact this
   clear HD;have ce:Dn 12 (fun _=>True) w ρ P A f J w3 ρ3 A3 g1 J3:=⟨bg.st,li.trans bg.mv (fun _ _ e=>e),(oy.trans bg.js).up (by omega),bg.ad.top⟩;by_cases hf5:ces.length=5
   ·have xk:¬(b=c∨b=bJ (setN f b (2,es1)) (.ent b i)):=fun e=>by
     rcases e with e | e
     ·exact nz e
     ·have hk:bJ (setN f b (2,es1)) (.ent b i)∈kids (2,es1):=by simp only[bJ,aE ew];exact gL jd
      rw[←e]at hk;exact w1.ic.not_self ew hk
    have GS:A3.φ b=some q:=by rw[bg.ad.φ b xk];exact hφ
    have SC:A3.α b=some g:=by rw[bg.ad.α b xk];exact hg
    have HM:=aA (aI m2 (aI m4 au));obtain⟨gc,bp⟩:=qz.arrOf (by simp only;omega);rw[bp]at qz;have AI:decide (ces.length=5)=true:=by simpa using hf5
    have H5:=aA hf5;clear hf5 m2 m4 au hT;go_wp2_with fail;refine(nI q3 (kc,ces) _ junk3 _ qz).mono ?_;rintro e w4 ⟨rfl,cn⟩;rw[cn];clear cn w4;go_wp2_with fail;refine(oD q3 gc kc ces junk3 _ qz (by have:=H5.out;omega) (by have:=H5.out;omega)).mono ?_;rintro e w4 ⟨q1,a1,j1,junk4,rfl,k1,k2,k3,k4,kF⟩;rw[show ces.length-2=3 by have:=H5.out;omega]at k3 k4;have kF':Frm (fun x=>x=q3∨A3.α c=some x) w3 w4:=kF.wide fun x _ e=>by rcases e with e | e;exact .inl e;right;rw[bp,e]
    obtain⟨aw,Al⟩:=bg.st.nodeSame hd Az kF' (by rw[bp];exact k4);have FM:∀x,w3.heap.size≤x→ρ3 x=0:=fun x hx=>Nat.eq_zero_of_not_pos fun q=>by
     obtain⟨_,_,_,gi,_⟩:=id bg.st;exact absurd (gi.own x (by omega)) (by omega)
    have QV:c<g1.cur.length:=vq.lt c _ hd;have i5:Sz (K+10) (setN g1 c (kc,ces.take 3)):=vq.setN QV (by simp;omega);have CE:JS 0 g1 J3 (setN g1 c (kc,ces.take 3)) J3:=JS.setN _ CK;obtain⟨ga,ue⟩:=k3.arrOf (by have:=H5.out;simp;omega);subst ue;have ue:w3.heap.size≤ga:=k2 ga rfl;have kw:(setN g1 c (kc,ces.take 3)).nodes b=some (2,es2):=(aC _ _ nz).trans m1;obtain⟨q',junk5,e1,Xs,Xt,ix⟩:=aw.getNode kw;rw[GS]at e1;cases e1;rw[SC]at ix;have SF:ρ3 g=cB b:=Xt g SC;obtain⟨c1,c2'⟩:=k3.first rfl (n:=2) (by have:=H5.out;simp;omega) (by omega);have ek1:ky (ces.drop 3) 0=ky ces 3:=by unfold ky;simp[gD]
    rw[ek1]at c2';have EZ:w4.cell? ⟨q,1,none⟩=some (.slice (some ⟨g,0,none⟩) es2.length (es2.length+junk5.length)):=by rw[ix.box.cell];rfl
    obtain⟨i1,ry⟩:=exH (i+1);have wt:IntKind.i64.wrap ((i:Int)+1)=(i1:Int):=by
     have:=ry.out
     rw[IntWalk.i64_in _ ⟨by omega,by have:=HL.out;omega⟩];omega
    obtain⟨y1,U5⟩:=exH (ky ces 3);rw[←U5.out]at c2' Ca;have HC:=aA (aI ai (aI m5 (aI m6 m7)));clear ai ek1 m5 m6 m7 qz k4 kF kF' AI c2;go_wp2;have dh:w4.drew.cell? ⟨q,1,none⟩=some (.slice (some ⟨g,0,none⟩) es2.length (es2.length+junk5.length)):=EZ;have am:=dh;clear dh c1 c2';refine bA (fun W=>W.cell? ⟨q,1,none⟩=some (.slice (some ⟨g,0,none⟩) es2.length (es2.length+junk5.length))) 16 (by kernel_rfl) ?_;refine tJ 0 52 (.pointer (some ⟨q,0,none⟩)) rfl am ?_ (fun w' hw=>by obtain m1:=hw;go_simp;try rfl);simp only[Act.put,sB,sZ,sS];refine tJ 1 53 (.pointer (some ⟨q,0,none⟩)) rfl am ?_ (fun w' hw=>by obtain m1:=hw;go_simp;try rfl);simp only[Act.put,sB,sZ,sS];refine tJ 2 54 (.pointer (some ⟨q,0,none⟩)) rfl am ?_ (fun w' hw=>by obtain m1:=hw;go_simp;try rfl);simp only[Act.put,sB,sZ,sS];refine tJ 3 55 (.pointer (some ⟨q,1,none⟩)) rfl am ?_ (fun w' hw=>by obtain m1:=hw;go_simp;try rfl);simp only[Act.put,sB,sZ,sS];refine tJ 4 56 (.slice (some ⟨g,0,none⟩) es2.length (es2.length+junk5.length)) rfl am ?_ (fun w' hw=>by obtain m1:=hw;go_simp;try rfl);simp only[Act.put,sB,sZ,sS];refine tJ 5 57 (.int .i64 i) rfl am ?_ (fun w' hw=>by obtain m1:=hw;go_simp;try rfl);simp only[Act.put,sB,sZ,sS];refine tJ 6 58 (.int .i64 i1) rfl am ?_ (fun w' hw=>by obtain m1:=hw;go_simp;try rfl);simp only[Act.put,sB,sZ,sS];refine tJ 7 59 (.string y1) rfl am ?_ (fun w' hw=>by obtain m1:=hw;go_simp;try rfl);simp only[Act.put,sB,sZ,sS];refine tJ 8 60 (.pointer (some ⟨P,0,none⟩)) rfl am ?_ (fun w' hw=>by obtain m1:=hw;go_simp;try rfl);simp only[Act.put,sB,sZ,sS];refine tJ 9 61 (.pointer (some ⟨q1,0,none⟩)) rfl am ?_ (fun w' hw=>by obtain m1:=hw;go_simp;try rfl);simp only[Act.put,sB,sZ,sS];have tr:Bl w4 w4.drew:=(bQ w4.heap.size w4).drew;have Ic:=aw.below tr;refine oE 10 rfl fun K2 ae=>?_;go_simp;refine(oI w4.drew ρ3 P A3 (setN g1 c (kc,ces.take 3)) J3 q1 (kc,ces.drop 3) (some ga) j1 Ic i5 (by omega) (by have:=bg.js.len;omega) (k3.below tr) (FM q1 k1) (fun x e=>by cases e;exact FM ga ue)).mono ?_;intro e w5 hT;have ul:aF (setN g1 c (kc,ces.take 3))=aF g1:=rfl;by_cases hl:aF g1=0
    ·obtain⟨rfl,qx⟩:=hT.no hl
     have kq:stepDown f b key=none:=by rw[Ca.out,if_pos H5.out,if_pos hl]
     exact⟨rfl,fun _=>⟨rfl,ρ3,A3,_,J3,Ic.below qx,((ce.mv.trans Al (fun _ _ e=>e)).trans (Mv.of_below tr) (fun _ _ e=>e)).trans (Mv.of_below qx) (fun _ _ e=>e),(ce.js.trans CE).up (by omega)⟩,fun g c bp=>by rw[kq]at bp;cases bp⟩
    ·obtain⟨he,ρ5,cq,ng,er⟩:=hT.yes hl
     rw[ul]at he cq;subst he;have ft:stepDown f b key=some (splitF g1 b es2 i c kc ces 3 (aF g1) y1,if kl key y1=true then c else aF g1):=by rw[Ca.out,if_pos H5.out,if_neg hl]
     obtain⟨l1,l2,l3,l4⟩:=aR hl;have Oc:g1.nodes (aF g1)=none:=(w2'.ic.dom.dead _).2 l3;generalize aF g1=z at *;have DO:b≠z:=fun e=>by rw[e,Oc]at m1;cases m1
     have xr:c≠z:=fun e=>by rw[e,Oc]at hd;cases hd
     have Ev:JS 1 g1 J3 (takeAt (setN g1 c (kc,ces.take 3)) z (kc,ces.drop 3)) (J3++[(z,cu (setN g1 c (kc,ces.take 3)) z,(setN g1 c (kc,ces.take 3)).nodes z)]):=(CE.trans (JS.save l2)).trans (JS.takeAt _ Tch.saved);have ML:Tch z (J3++[(z,cu (setN g1 c (kc,ces.take 3)) z,(setN g1 c (kc,ces.take 3)).nodes z)]):=Tch.saved;generalize J3++[(z,cu (setN g1 c (kc,ces.take 3)) z,(setN g1 c (kc,ces.take 3)).nodes z)]=J5 at *;have Do:Mv (fun _=>False) w ρ w5 ρ5:=((((ce.mv.trans Al (fun _ _ e=>e)).trans (Mv.of_below tr) (fun _ _ e=>e)).up (Y:=fun x=>x=q1∨some ga=some x) (fun _ _ e=>e.elim)).trans ng (fun _ _ e=>e)).up fun x hx e=>by
      have:=ce.mv.frm.size
      rcases e with e | e
      ·omega
      ·cases e;omega
     have av:∀x,(x=cE b∨x=cB b)→¬(x=1∨x=6∨x=3∨x=4):=fun x e=>by unfold cE cB at e;omega
     have Ff:aK w5 q (2,es2) (some g) junk5:=(ix.below tr).frm er (by rw[Xs];exact av _ (.inl rfl)) (fun x e=>by cases e;rw[SF];exact av _ (.inr rfl));have oe:w5.cell? ⟨q,1,none⟩=some (.slice (some ⟨g,0,none⟩) es2.length (es2.length+junk5.length)):=by rw[Ff.box.cell];rfl
     refine ae _ _ (fun _=>oe) ?_;clear ae K2 am hT;refine oE 11 rfl fun K2 ae=>?_;go_simp;refine ae _ _ (fun _=>oe) ?_;clear ae K2;refine oE 12 rfl fun K2 ae=>?_;go_simp;obtain⟨G6,zt⟩:=exH (w5.heap.size);obtain⟨W6,BB⟩:=exH (w5.alloc (.cells #[.string y1,.string ⟨#[]⟩,.int .i64 z] 110));rw[←BB.out,←zt.out];have y9:IsC W6 G6 (bW [(y1,.empty,(z:Int))]) 110:=by rw[BB.out,zt.out];exact IsC.new _ _ _
     have r9:Bl w5 W6:=by rw[BB.out];exact(bQ w5.heap.size w5).alloc (nR _) _
     have Lz:g≠G6:=by rw[zt.out];exact Nat.ne_of_lt (Ff.arr g rfl).1.lt
     have nw:=Ff.below r9;have AY:W6.cell? ⟨q,1,none⟩=some (.slice (some ⟨g,0,none⟩) es2.length (es2.length+junk5.length)):=by rw[nw.box.cell];rfl
     refine ae _ _ (fun _=>AY) ?_;clear ae K2 oe;have kv:=cq.below r9;have AM:i<es2.length:=by rw[HM.out.1];exact jd
     have ke:(takeAt (setN g1 c (kc,ces.take 3)) z (kc,ces.drop 3)).nodes b=some (2,es2):=(aC _ _ DO).trans kw;have Of:(cV A3 z q1 (some ga)).φ b=some q:=(aC _ _ DO).trans GS;have Xo:(cV A3 z q1 (some ga)).α b=some g:=(aC _ _ DO).trans SC;refine oE 13 rfl fun K2 ae=>?_;go_simp;refine(jX (some g) es2 junk5 [(y1,.empty,(z:Int))] (some ⟨G6,0,none⟩) 1 i1 W6 (fun x e=>by cases e;exact(nw.arr g rfl).1) (fun e=>by cases e) (.inr ⟨G6,0,1,[(y1,.empty,(z:Int))],rfl,y9,by simp,by simp⟩) (fun gv o n c e e'=>by cases e;cases e';exact Lz rfl) (by rw[ry.out];omega) (by simp) (by have:=HM.out.1;have:=HL.out;simp;omega) nw.small).mono ?_;rintro e w7 ⟨u,rfl,ej⟩;obtain⟨ua,un,uc,rfl⟩:∃ua un uc,u=.slice ua un uc:=by obtain⟨⟨a',j',e,_⟩,_⟩:=ej;exact⟨_,_,_,e⟩
     have nm:w7.cell? ⟨q,1,none⟩=some (.slice (some ⟨g,0,none⟩) es2.length (es2.length+junk5.length)):=(dA (ej.frm.block q nw.box.lt (fun e=>(nw.arr q e).2 rfl)) 1).trans AY;obtain⟨a',-,ni,Am,-,wh⟩:=kv.ins (w1:=w7) (u:=.slice ua un uc) ke Of (by rw[Xo];exact ej);have Jy:es2.take i1++[(y1,.empty,(z:Int))]++es2.drop i1=insE es2 (i+1) (y1,.empty,(z:Int)):=by rw[ry.out];simp[insE]
     rw[Jy]at ni;have kr:setN (takeAt (setN g1 c (kc,ces.take 3)) z (kc,ces.drop 3)) b (2,insE es2 (i+1) (y1,.empty,(z:Int)))=splitF g1 b es2 i c kc ces 3 z y1:=rfl;rw[kr]at ni;have EB:b <(takeAt (setN g1 c (kc,ces.take 3)) z (kc,ces.drop 3)).cur.length:=by
      have:b<g1.cur.length:=vq.lt b _ m1
      simpa [takeAt,setN] using this
     have Ax:Sz (K+10) (splitF g1 b es2 i c kc ces 3 z y1):=(i5.takeAt (by omega) l2 (by have:=H5.out;simp;omega)).setN EB (by have:=HM.out.1;have:=HL.out;simp only[insE,lP,List.length_take,List.length_cons,List.length_drop];omega);have S4:JS 13 f J (splitF g1 b es2 i c kc ces 3 z y1) J5:=((ce.js.trans Ev).trans (JS.setN _ (Ev.tch b (bg.js.tch b qv)))).up (by omega);have Dv:Tch c J5:=Ev.tch c CK;have CZ:(dL (cV A3 z q1 (some ga)) b a').φ c=some q3:=(aC _ _ xr).trans Az;have Xv:(dL (cV A3 z q1 (some ga)) b a').φ z=some q1:=aD _ _ _;have Kd:AdS (fun _=>True) A (dL (cV A3 z q1 (some ga)) b a'):=(ce.ad.trans ((AdS.put A3 z q1 (some ga)).trans (AdS.arr _ b a'))).up fun _ _=>trivial;have HF:=aA (show Dn 13 (fun _=>True) w ρ P A f J (w7.setCell ⟨q,1,none⟩ (.slice ua un uc)) (jA ρ5 a' b) (dL (cV A3 z q1 (some ga)) b a') (splitF g1 b es2 i c kc ces 3 z y1) J5 from⟨ni,(Do.trans (Mv.of_below r9) (fun _ _ e=>e)).trans Am (fun _ _ e=>e),S4,Kd⟩);have HY:=aA (aI ft (aI Dv (aI ML Ax)));refine ae _ _ (fun _=>nm) ?_;clear ae K2 AY ft Dv ML Ax Kd S4 ni Am kr Jy kv cq Do ng er Ic aw Al ce bg Ev CE Ca ej nw ix Ff y9 i5 vq;refine oE 14 rfl fun K2 ae=>?_;go_simp;refine ae _ _ (fun _=>nm) ?_;clear ae K2;refine oE 15 rfl fun K2 ae=>?_;go_simp;refine ae _ _ (fun _=>nm) ?_;clear ae K2;refine oE 16 rfl fun K2 ae=>?_;go_simp;refine ae _ _ (fun q=>absurd rfl q) ?_;clear ae K2;refine aW (by kernel_rfl) ?_ _;by_cases hk:kl key y1=true
     ·have RO:Op.bytesLess key.toList y1.toList=true:=hk
      have HK:=aA hk;clear hk;go_wp2;go_ret;obtain⟨ft,Dv,ML,Ax⟩:=HY.out;rw[if_pos HK.out]at ft;refine⟨fun q=>(by rw[ft]at q;cases q),fun g' c' bp=>?_⟩;rw[ft]at bp;cases bp;exact⟨_,_,J5,q3,rfl,CZ,HF.out,Dv,Ax⟩
     ·have RO:Op.bytesLess key.toList y1.toList=false:=Bool.eq_false_iff.2 (show ¬Op.bytesLess key.toList y1.toList=true from hk)
      have HK:=aA hk;clear hk;go_wp2;go_ret;obtain⟨ft,Dv,ML,Ax⟩:=HY.out;rw[if_neg HK.out]at ft;refine⟨fun q=>(by rw[ft]at q;cases q),fun g' c' bp=>?_⟩;rw[ft]at bp;cases bp;exact⟨_,_,J5,q1,rfl,Xv,HF.out,ML,Ax⟩
   ·have AI:decide (ces.length=5)=false:=by simpa using hf5
    have H5:=aA hf5;clear hf5 hT;go_wp2_with fail;refine(nI q3 (kc,ces) _ junk3 _ qz).mono ?_;rintro e w4 ⟨rfl,cn⟩;rw[cn];clear cn w4;go_wp2;go_ret;refine⟨fun q=>(by rw[Ca.out,if_neg H5.out]at q;cases q),fun g' c' bp=>?_⟩;rw[Ca.out,if_neg H5.out]at bp;cases bp;exact⟨ρ3,A3,J3,q3,rfl,Az,⟨ce.st,ce.mv,ce.js.up (by omega),ce.ad⟩,CK,vq⟩)
theorem lR{α β:Type}(R:Nat→α→β→Prop):∃m:α→β→Nat,(∀x y h,R h x y→R (m x y) x y)∧∀x y h,R h x y→m x y≤h:=by
 have key:∀x y,∃n,(∀h,R h x y→R n x y)∧∀h,R h x y→n≤h:=fun x y=>by
  by_cases e:∃h,R h x y
  ·obtain⟨h,hh⟩:=e
   induction h using Nat.strongRecOn with
   | ind h ih=>
    by_cases e:∃h',h'<h∧R h' x y
    ·obtain⟨h',h1,h2⟩:=e;exact ih h' h1 h2
    ·exact⟨h,fun _ _=>hh,fun h' Ku=>Nat.le_of_not_lt fun hl=>e ⟨h',hl,Ku⟩⟩
  ·exact⟨0,fun h hh=>absurd ⟨h,hh⟩ e,fun h hh=>absurd ⟨h,hh⟩ e⟩
 refine⟨fun x y=>(key x y).choose,fun x y h hh=>(key x y).choose_spec.1 h hh,fun x y h hh=>(key x y).choose_spec.2 h hh⟩
theorem aJA(W:World)(k:ByteArray):(Instr.build 110 #[(0,.string k)]).run Tryz.prog W=.ok (.agg #[.string k,.string .empty,.int .i64 0]) W:=by kernel_rfl
structure PuP(k:Nat)(L:Int)(w:World)(ρ:Nat→Nat)(P:Nat)(A:Adr)(f:fZ)(J:List aQ)(r:Option (fZ×Bool))(e:Ending)(w':World):Prop where
 no:r=none→Pk k w ρ P f J e w'
 yes:∀g th,r=some (g,th)→∃ρ' A' J',e=.returned (.bool th)∧Dn k (fun _=>True) w ρ P A f J w' ρ' A' g J'∧Sz L g
structure PuR(w:World)(ρ:Nat→Nat)(P:Nat)(A:Adr)(f:fZ)(J:List aQ)(K:Int)(t H:Nat)(key val:ByteArray)(r:Option (fZ×Bool))(h:Nat)(v:Value)(W:World):Prop where
 le:h≤H
 ex:∃q b ρ' A' f' J' Pt lo hi,v=.pointer (some ⟨q,0,none⟩)∧A'.φ b=some q∧Dn (14+13*(H-h)) (fun _=>True) w ρ P A f J W ρ' A' f' J'∧Sz (K+10+10*((H-h:Nat):Int)) f'∧(∃H',Wk f' t H'∧aN f' t H' Pt b h lo hi)∧loR lo key∧hiR hi key∧sz f'.nodes b<5∧Tch b J'∧putAt h f' b key val=r
theorem aLZ(w:World)(ρ:Nat→Nat)(P:Nat)(A:Adr)(f:fZ)(J:List aQ)(t H:Nat)(key val:ByteArray)(MK:St w ρ P A f J)(hW:Wk f t H)(hz:Sz K f)(sw:1≤K)(hK:K+10*(H+3)≤700000)(ku:J.length+13*(H+3)≤600000):
  Calls Tryz.prog 99 #[.pointer (some ⟨P,0,none⟩),.pointer (some ⟨A.ra,t*2+1,none⟩),.agg #[.string key,.string val]] w (PuP (13*(H+3)) (K+10*(H+3)) w ρ P A f J (put f t H key val)):=by
 have Gj:=aJA;have ll:=qP;obtain⟨B,HB⟩:=exH (w.heap.size);obtain⟨w0,PJ⟩:=exH (w.alloc (.cells #[.string key,.string val] 85));have cw:Bl w w0:=by rw[PJ.out];exact(bQ w.heap.size w).alloc (nR _) _
 have bj:IsC w0 B #[.string key,.string val] 85:=by rw[PJ.out,HB.out];exact IsC.new _ _ _
 have sb:=MK.below cw;have Od:ρ B=0:=Nat.eq_zero_of_not_pos fun q=>by
  obtain⟨_,_,_,hR,_⟩:=id MK;have:=hR.own B (by omega);rw[HB.out]at this;omega
 have Gh:∀k L e w',PuP k L w0 ρ P A f J (put f t H key val) e w'→PuP k L w ρ P A f J (put f t H key val) e w':=fun k L e w' hp=>by
  refine⟨fun q=>?_,fun g th q=>?_⟩
  ·obtain⟨h1,ρ',A',g,J',a,b,c⟩:=hp.no q
   exact⟨h1,ρ',A',g,J',a,(Mv.of_below cw).trans b (fun _ _ e=>e),c⟩
  ·obtain⟨ρ',A',J',a,b,c⟩:=hp.yes g th q
   exact⟨ρ',A',J',a,⟨b.st,(Mv.of_below cw).trans b.mv (fun _ _ e=>e),b.js,b.ad⟩,c⟩
 have HP:=aA Gh;have hL:dO f (.root t):=hW.tl;have Pp:gS A (.root t) ⟨A.ra,t*2+1,none⟩:=rfl;clear Gh;go_enter Tryz.func99,Tryz.ntmps99;go_wp2_with fail;rw[←PJ.out,←HB.out];refine(iE w0 ρ P A f J (.root t) ⟨A.ra,t*2+1,none⟩ sb hW.ic hz sw (by omega) (by omega) hL Pp (fun b i e=>by cases e)).mono ?_;intro e w3 hT;cases al:shadow f (.root t)with
 | none=>
  obtain⟨rfl,ρ3,A3,g3,J3,a1,a2,a3⟩:=hT.no al;have kq:put f t H key val=none:=by simp only[put,al]
  exact⟨rfl,HP.out _ _ _ _ ⟨fun _=>⟨rfl,ρ3,A3,g3,J3,a1,a2,a3.up (by omega)⟩,fun g c bp=>by rw[kq]at bp;cases bp⟩⟩
 | some gc=>
  obtain⟨g1,r⟩:=gc;obtain⟨ρ3,A3,J3,q3,rfl,Az,bg,CK,vq⟩:=hT.yes g1 r al;obtain⟨w1,p1,a1,a2,a3,a4,-,a6⟩:=hW.shadow_root al;obtain⟨⟨kc,ces⟩,hd⟩:=w1.ic.live (x:=r) (by rw[a3];omega);have au:ces.length≤5:=by
   obtain⟨d',d1,_,d2,_⟩:=((p1.ok w1.ok).1).sz_pos;rw[hd]at d1;cases d1;exact d2
  obtain⟨q3',junk3,e1,UL,Nk,qz⟩:=bg.st.getNode hd;rw[Az]at e1;cases e1;have LF:A3.ra=A.ra:=bg.ad.ra;have HD:Hid (put f t H key val=if ces.length=5 then match bM g1 t r with
   | none=>none
   | some (k,top)=>putAt (H+1) k top key val
   else putAt H g1 r key val):=by
   show put f t H key val=_
   unfold put;rw[al];simp only[aE hd];rfl
  obtain⟨m,vo,od⟩:=lR (PuR w0 ρ P A f J K t (H+1) key val (put f t H key val));have Ep:=aA vo;have Er:=aA od;have HX:=aA (aI hK ku);clear vo od hK ku;by_cases hf5:ces.length=5
  case' pos=>
   have AI:decide (ces.length=5)=true:=by simpa using hf5
   have H5:=aA hf5;clear hf5 hT au;go_wp2_with fail;refine(nI q3 (kc,ces) _ junk3 _ qz).mono ?_;rintro e w4 ⟨rfl,cn⟩;rw[cn];clear cn w4;go_wp2_with fail;rw[←LF];refine(yR (K:=K+10) w3 ρ3 P A3 g1 J3 t r kc ces bg.st w1.ic vq (by omega) (by have:=HX.out;omega) (by have:=bg.js.len;have:=HX.out;omega) w1.tl a1 hd H5.out CK).mono ?_;intro e w4 hG;rcases bm:bM g1 t r with _ | ⟨g2,top⟩
   ·have kq:put f t H key val=none:=by rw[HD.out,if_pos H5.out,bm]
    obtain⟨rfl,ρ4,A4,g4,J4,b1,b2,b3⟩:=hG.no bm;exact⟨rfl,HP.out _ _ _ _ ⟨fun _=>⟨rfl,ρ4,A4,g4,J4,b1,bg.mv.trans b2 (fun _ _ e=>e),(bg.js.trans b3).up (by omega)⟩,fun g c bp=>by rw[kq]at bp;cases bp⟩⟩
   obtain⟨ρ4,A4,J4,q4,rfl,rx,Dg,P6,i5⟩:=hG.yes g2 top bm;have Pv:∃h0,PuR w0 ρ P A f J K t (H+1) key val (put f t H key val) h0 (.pointer (some ⟨q4,0,none⟩)) w4:=by
    have ER:=bm;unfold bM at bm;rw[aE hd]at bm;simp only at bm;by_cases pf:aF g1=0
    ·rw[if_pos pf]at bm;cases bm
    ·rw[if_neg pf]at bm
     generalize hT:aF (takeAt (setN g1 r (kc,ces.take 3)) (aF g1) (kc,ces.drop 3))=tp at *;by_cases ee:tp=0
     ·rw[if_pos ee]at bm;cases bm
     ·rw[if_neg ee]at bm
      simp only[sJ,Prod.mk.injEq]at bm;obtain⟨e1,rfl⟩:=bm;obtain⟨l1,l2,l3,l4⟩:=aR pf;obtain⟨m1,m2,m3,m4⟩:=aR (hT▸ee);rw[hT]at m1 m2 m3;have ot:∀x,cu (takeAt (setN g1 r (kc,ces.take 3)) (aF g1) (kc,ces.drop 3)) x=if aF g1=x then 1 else cu g1 x:=fun x=>dQ (f:=setN g1 r (kc,ces.take 3)) (kc,ces.drop 3) l2 x;rw[ot]at m3;have sq:tp≠aF g1:=fun e=>by rw[if_pos e.symm]at m3;omega
      rw[if_neg (Ne.symm sq)]at m3;have m2':tp<g1.cur.length:=by simpa [takeAt,setN] using m2
      have h5:=H5.out;rw[←a1]at a3 hd e1;obtain⟨w2,p2,b1,b2,b3⟩:=w1.grow a3 hd (m:=3) (by omega) (by omega) l1 l2 l3 m1 m2' m3 sq;rw[e1]at w2 p2 b3;refine⟨H+1,nR _,q4,tp,ρ4,A4,g2,J4,_,_,_,rfl,rx,⟨Dg.st,bg.mv.trans Dg.mv (fun _ _ e=>e),(bg.js.trans Dg.js).up (by omega),(bg.ad.trans Dg.ad).up fun _ _=>trivial⟩,i5.up (by omega),⟨_,w2,p2⟩,trivial,trivial,by unfold sz;rw[b3];simp,P6,?_⟩;rw[HD.out,if_pos H5.out,ER]
   clear bg Dg hG bm qz hd;go_wp2
  case' neg=>
   have AI:decide (ces.length=5)=false:=by simpa using hf5
   have H5:=aA hf5;have LV:=aA au;clear hf5 hT au;go_wp2_with fail;refine(nI q3 (kc,ces) _ junk3 _ qz).mono ?_;rintro e w4 ⟨rfl,cn⟩;rw[cn];clear cn w4;have Pv:∃h0,PuR w0 ρ P A f J K t (H+1) key val (put f t H key val) h0 (.pointer (some ⟨q3,0,none⟩)) w3:=by
    refine⟨H,Nat.le_succ _,q3,r,ρ3,A3,g1,J3,_,_,_,rfl,Az,⟨bg.st,bg.mv,bg.js.up (by omega),bg.ad.top⟩,vq.up (by omega),⟨_,w1,p1⟩,trivial,trivial,?_,CK,?_⟩
    ·unfold sz;rw[hd];have:=H5.out;have:=LV.out;simp only;omega
    ·rw[HD.out,if_neg H5.out]
   clear bg qz hd;go_wp2
  all_goals (
   clear HD H5 LF;have DR:=Pv;clear Pv;go_loopw [7] (fun v wr=>∃h,PuR w0 ρ P A f J K t (H+1) key val (put f t H key val) h v wr) (fun v wr=>m v wr)
   case atStart=>exact DR
   case round=>
    obtain⟨h',E0⟩:=hrel;have hR:=Ep.out _ _ _ E0;clear E0 DR;obtain⟨h,Hh⟩:=exH (m u7 wr);rw[←Hh.out]at hR;obtain⟨pr,q,b,ρ4,A4,f4,J4,Pt,lo,hi,rfl,rx,bg,i5,⟨H',w4,p4⟩,mw,uf,h5,E1,bz⟩:=hR;have kj:IsC wr B #[.string key,.string val] 85:=bj.frm bg.mv.frm (fun e=>by rcases e with e | e;exact e Od;exact e);have mq:=aA pr;clear pr;cases h with
    | succ h=>
     obtain⟨es,af,so,av⟩:=p4.inner w4;obtain⟨q',junk,e1,ww,wu,hN⟩:=bg.st.getNode af;rw[rx]at e1;cases e1;have c0:wr.cell? ⟨q,0,none⟩=some (.int .i64 2):=by rw[hN.box.cell];rfl
     have ck:wr.cell? ⟨B,0,none⟩=some (.string key):=kj.c rfl;go_wp2_with fail;refine(aAB (K:=K+10+10*((H+1 -(h+1):Nat):Int)) wr ρ4 P A4 f4 J4 t H' Pt b h lo hi key q bg.st w4 p4 mw h5 rx i5 (by omega) (by have:=HX.out;have:=mq.out;omega) (by have:=HX.out;have:=bg.js.len;have:=mq.out;omega) E1).mono ?_;intro e w5 hS;cases ml:stepDown f4 b key with
     | none=>
      obtain⟨rfl,ρ5,A5,g5,J5,b1,b2,b3⟩:=hS.no ml;have kq:put f t H key val=none:=by rw[←bz];unfold putAt;rw[ml]
      exact⟨rfl,HP.out _ _ _ _ ⟨fun _=>⟨rfl,ρ5,A5,g5,J5,b1,bg.mv.trans b2 (fun _ _ e=>e),(bg.js.trans b3).up (by have:=mq.out;omega)⟩,fun g c bp=>by rw[kq]at bp;cases bp⟩⟩
     | some gc=>
      obtain⟨g5,c5⟩:=gc;obtain⟨ρ5,A5,J5,q5,rfl,Oe,mo,Ii,Ag⟩:=hS.yes g5 c5 ml;obtain⟨P',lo',ak,w6,p6,l1,l2,l3,-,-⟩:=w4.stepDown p4 mw uf h5 ml;have ly:PuR w0 ρ P A f J K t (H+1) key val (put f t H key val) h (.pointer (some ⟨q5,0,none⟩)) w5:=by
       refine⟨by have:=mq.out;omega,q5,c5,ρ5,A5,g5,J5,P',lo',ak,rfl,Oe,⟨mo.st,bg.mv.trans mo.mv (fun _ _ e=>e),(bg.js.trans mo.js).up (by have:=mq.out;omega),(bg.ad.trans mo.ad).up fun _ _=>trivial⟩,Ag.up (by have:=mq.out;omega),⟨_,w6,p6⟩,l1,l2,l3,Ii,?_⟩;rw[←bz];conv=>rhs;unfold putAt;rw[ml]
      clear hS mo bg;go_wp2;go_roundw
      case rel=>exact⟨h,ly⟩
      case measure=>
       have h1:=Er.out _ _ _ ly;have h2:=Hh.out;exact Nat.lt_of_le_of_lt h1 (by show h<m _ _;rw[←h2];exact Nat.lt_succ_self h)
    | zero=>
     obtain⟨es,af,so,xr⟩:=p4.leaf w4;obtain⟨q',junk,e1,ww,wu,hN⟩:=bg.st.getNode af;rw[rx]at e1;cases e1;have Ag:es.length<5:=by unfold sz at h5;rw[af]at h5;exact h5
     have Ha:put f t H key val=some (setN f4 b (1,putE es key val),fC es key):=by rw[←bz];unfold putAt;rw[aE af]
     obtain⟨a,ha⟩:∃a,a=A4.α b:=⟨_,rfl⟩;rw[←ha]at hN;have c0:wr.cell? ⟨q,0,none⟩=some (.int .i64 1):=by rw[hN.box.cell];rfl
     have c1:wr.cell? ⟨q,1,none⟩=some (.slice (adr a) es.length (es.length+junk.length)):=by rw[hN.box.cell];rfl
     have ck:wr.cell? ⟨B,0,none⟩=some (.string key):=kj.c rfl;have DJ:NRd wr.drew (.slice (adr a) es.length (es.length+junk.length)) es:=hN.esl.nrd;have C1:=hN.box.lt;have xf:=kj.lt;have rz:=aA Ha;have HA:=aA ha;clear bz Ha ha;go_wp2;go_region_held3 (fun w'=>w'.cell? ⟨q,1,none⟩=some (.slice (adr a) es.length (es.length+junk.length))∧w'.cell? ⟨B,0,none⟩=some (.string key)) (first | go_keep | exact⟨c1,ck⟩ | exact⟨(hB.cell (p:=⟨q,1,none⟩) C1).trans c1,(hB.cell (p:=⟨B,0,none⟩) xf).trans ck⟩) ((go_at_call 119;refine(gX _ es key _ DJ (by omega) so.srt).mono ?_;rintro e w5 ⟨cw,he⟩;have E8:e=.returned (.tuple #[.int .i64 (cLt es key),.bool (fC es key)]):=he;subst E8;have hB:Bl wr w5:=(bQ wr.heap.size wr).drew.trans cw));have cq:=bg.st.below hB;have ng:Mv (fun _=>False) w0 ρ w5 ρ4:=bg.mv.trans (Mv.of_below hB) (fun _ _ e=>e);have ix:=hN.below hB;have q9:IsC w5 B #[.string key,.string val] 85:=kj.of (hB.block B xf);have au:=jS es key;obtain⟨i,HI⟩:=exH (cLt es key);rw[←HI.out]at au ⊢;have DH:=bg.js;have Ln:=bg.ad;clear bg hN c0 c1 ck DJ kj hB;by_cases hk:fC es key=true
     case' pos=>
      have G8:∃ρ9 A9 f9 es5,St w5 ρ9 P A9 f9 J4∧Mv (fun _=>False) w0 ρ w5 ρ9∧AdS (fun _=>True) A A9∧JS (14+13*(H+1-0)) f J f9 J4∧Sz (K+10+10*((H+1-0:Nat):Int)) f9∧f9.nodes b=some (1,es5)∧A9.φ b=some q∧i<es5.length∧es5.length≤5∧setN f9 b (1,es5.set i ((es5.getD i e0).1,val,(es5.getD i e0).2.2))=setN f4 b (1,putE es key val)∧IsC w5 B #[.string key,.string val] 85:=by
       obtain⟨k1,k2⟩:=(dG es key).1 hk;refine⟨ρ4,A4,f4,es,cq,ng,Ln,DH,i5,af,rx,by rw[HI.out];exact k1,by omega,?_,q9⟩;unfold putE;rw[if_pos hk,HI.out]
      rw[hk];rw[hk]at rz;clear hk;generalize Hk:w5=w9 at *;go_wp2
     case' neg=>
      have lc:fC es key=false:=by simpa using hk
      rw[lc];have am:(adr a,es.length,w5.drew.cell? ⟨q,1,none⟩)=(adr a,es.length,some (.slice (adr a) es.length (es.length+junk.length))):=by
       have:w5.drew.cell? ⟨q,1,none⟩=some (.slice (adr a) es.length (es.length+junk.length)):=by
        show w5.cell? _=_
        rw[ix.box.cell];rfl
       rw[this]
      have rh:w5.drew.cell? ⟨q,1,none⟩=some (.slice (adr a) es.length (es.length+junk.length))∧w5.drew.cell? ⟨B,0,none⟩=some (.string key):=by
       refine⟨by show w5.cell? _=_;rw[ix.box.cell];rfl,by show w5.cell? _=_;rw[q9.cell];rfl⟩
      clear am;have am:=rh;clear rh;go_wp2;refine bA (fun W=>W.cell? ⟨q,1,none⟩=some (.slice (adr a) es.length (es.length+junk.length))∧W.cell? ⟨B,0,none⟩=some (.string key)) 13 (by kernel_rfl) ?_;refine tJ 0 40 (.pointer (some ⟨q,0,none⟩)) rfl am ?_;simp only[Act.put,sB,sZ,sS];refine tJ 1 41 (.pointer (some ⟨q,0,none⟩)) rfl am ?_;simp only[Act.put,sB,sZ,sS];refine tJ 2 42 (.pointer (some ⟨q,0,none⟩)) rfl am ?_;simp only[Act.put,sB,sZ,sS];refine tJ 3 43 (.pointer (some ⟨q,1,none⟩)) rfl am ?_;simp only[Act.put,sB,sZ,sS];refine tJ 4 44 (.slice (adr a) es.length (es.length+junk.length)) rfl am ?_;simp only[Act.put,sB,sZ,sS];refine tJ 5 45 (.int .i64 i) rfl am ?_;simp only[Act.put,sB,sZ,sS];refine tJ 6 46 (.pointer (some ⟨B,0,none⟩)) rfl am ?_;simp only[Act.put,sB,sZ,sS];refine tJ 7 47 (.string key) rfl am ?_;simp only[Act.put,sB,sZ,sS];refine tJ 8 48 (.agg #[.string key,.string .empty,.int .i64 0]) rfl am ?_;simp only[Act.put,sB,sZ,sS];refine oE 9 rfl fun K2 ae=>?_;go_simp;obtain⟨G6,zt⟩:=exH (w5.heap.size);obtain⟨W6,BB⟩:=exH ((w5.alloc (.cells #[.string key,.string .empty,.int .i64 0] 110)).drew);rw[←BB.out,←zt.out];have y9:IsC W6 G6 (bW [(key,.empty,(0:Int))]) 110:=by rw[BB.out,zt.out];exact(IsC.new w5 _ _).drew
      have r9:Bl w5 W6:=by rw[BB.out];exact((bQ w5.heap.size w5).alloc (nR _) _).drew
      have Lz:∀g,a=some g→g≠G6:=fun g e=>by rw[zt.out];exact Nat.ne_of_lt (ix.arr g e).1.lt
      have nw:=ix.below r9;have qd:IsC W6 B #[.string key,.string val] 85:=q9.of (r9.block B q9.lt);have AY:W6.cell? ⟨q,1,none⟩=some (.slice (adr a) es.length (es.length+junk.length))∧W6.cell? ⟨B,0,none⟩=some (.string key):=⟨by rw[nw.box.cell];rfl,qd.c rfl⟩;refine ae _ _ (fun _=>AY) ?_;clear ae K2 am;have kv:=cq.below r9;refine oE 10 rfl fun K2 ae=>?_;go_simp;refine(jX a es junk [(key,.empty,(0:Int))] (some ⟨G6,0,none⟩) 1 i W6 (fun x e=>(nw.arr x e).1) nw.nil (.inr ⟨G6,0,1,[(key,.empty,(0:Int))],rfl,y9,by simp,by simp⟩) (fun gv o n c e e'=>by cases e;exact Lz _ e' rfl) au (by simp) (by simp;omega) nw.small).mono ?_;rintro e w7 ⟨u,rfl,ej⟩;obtain⟨ua,un,uc,rfl⟩:∃ua un uc,u=.slice ua un uc:=by obtain⟨⟨a',j',e,_⟩,_⟩:=ej;exact⟨_,_,_,e⟩
      have VH:B≠q:=fun e=>by
       have h1:=qd;rw[e]at h1;exact IsC.ne h1 nw.box (by decide) rfl
      have VG:∀g,a=some g→B≠g:=fun g e e'=>by
       have h1:=qd;rw[e']at h1;exact IsC.ne h1 (nw.arr g e).1 (by decide) rfl
      have JB:IsC w7 B #[.string key,.string val] 85:=qd.frm ej.frm (fun e=>VG B e rfl);have nm:w7.cell? ⟨q,1,none⟩=some (.slice (adr a) es.length (es.length+junk.length))∧w7.cell? ⟨B,0,none⟩=some (.string key):=⟨(dA (ej.frm.block q nw.box.lt (fun e=>(nw.arr q e).2 rfl)) 1).trans AY.1,JB.c rfl⟩;obtain⟨a',-,ni,Am,-,wh⟩:=kv.ins (w1:=w7) (u:=.slice ua un uc) af rx (by rw[←HA.out];exact ej);have Jy:es.take i++[(key,.empty,(0:Int))]++es.drop i=insE es i (key,.empty,(0:Int)):=by simp[insE]
      rw[Jy]at ni;have d9:b<f4.cur.length:=i5.lt b _ af;have G8:∃ρ9 A9 f9 es5,St (w7.setCell ⟨q,1,none⟩ (.slice ua un uc)) ρ9 P A9 f9 J4∧Mv (fun _=>False) w0 ρ (w7.setCell ⟨q,1,none⟩ (.slice ua un uc)) ρ9∧AdS (fun _=>True) A A9∧JS (14+13*(H+1-0)) f J f9 J4∧Sz (K+10+10*((H+1-0:Nat):Int)) f9∧f9.nodes b=some (1,es5)∧A9.φ b=some q∧i<es5.length∧es5.length≤5∧setN f9 b (1,es5.set i ((es5.getD i e0).1,val,(es5.getD i e0).2.2))=setN f4 b (1,putE es key val)∧IsC (w7.setCell ⟨q,1,none⟩ (.slice ua un uc)) B #[.string key,.string val] 85:=by
       have fe:(insE es i (key,.empty,(0:Int))).length=es.length+1:=by simp only[insE,lP,List.length_take,List.length_cons,List.length_drop];omega
       refine⟨_,_,_,insE es i (key,.empty,(0:Int)),ni,(ng.trans (Mv.of_below r9) (fun _ _ e=>e)).trans Am (fun _ _ e=>e),(Ln.trans (AdS.arr A4 b a')).up fun _ _=>trivial,DH.trans (JS.setN _ E1),i5.setN d9 (by simp only;omega),aD _ _ _,rx,by omega,by omega,?_,JB.set_ne _ VH⟩;have e9:(insE es i (key,.empty,(0:Int))).getD i e0=(key,.empty,(0:Int)):=by
        rw[jI _ _ _ _ au,if_neg (by omega),if_pos rfl]
       rw[e9];have e10:(insE es i (key,.empty,(0:Int))).set i (key,val,0)=insE es i (key,val,0):=by
        unfold insE;rw[List.set_append_right _ _ (by simp;omega),List.length_take,show i-min i es.length=0 by omega];rfl
       simp only
       rw[e10];unfold putE;rw[if_neg hk,HI.out];unfold setN;simp only;congr 1;funext x;by_cases ex:x=b<;>simp[upd,ex]
      refine ae _ _ (fun _=>nm) ?_;clear ae K2 AY ni Am kv ej nw y9 qd;refine oE 11 rfl fun K2 ae=>?_;go_simp;refine ae _ _ (fun _=>nm) ?_;clear ae K2;refine oE 12 rfl fun K2 ae=>?_;go_simp;refine ae _ _ (fun _=>nm) ?_;clear ae K2;obtain⟨Br,-⟩:=nm;refine oE 13 rfl fun K2 ae=>?_;go_simp;refine ae _ _ (fun q=>absurd rfl q) ?_;clear ae K2;refine aW (by kernel_rfl) ?_ _;clear Br JB wh;rw[lc]at rz;clear hk lc;generalize Hk:w7.setCell ⟨q,1,none⟩ (.slice ua un uc)=w9 at *;go_wp2
     all_goals (
      obtain⟨ρ9,A9,f9,es5,pz,CG,PO,L2,C9,fu,UN,WW,OU,be,MW⟩:=G8;clear cq ng ix q9 Hk;obtain⟨q',junk5,e1,Xu,Xr,IX⟩:=pz.getNode fu;rw[UN]at e1;cases e1;obtain⟨g5,Gs⟩:=IX.arrOf (by simp only;omega);rw[Gs]at IX;have Ez:=IX.setc (i:=i) (j:=1) (v:=.string val) (e':=((es5.getD i e0).1,val,(es5.getD i e0).2.2)) WW (by omega) (by simp[aJ]);obtain⟨P2,Ex⟩:=pz.nodeSame (w':=w9.setCell ⟨g5,i*3+1,none⟩ (.string val)) fu UN (Frm.set w9 (p:=⟨g5,i*3+1,none⟩) (.inr Gs) _) (by rw[Gs];exact Ez);rw[be]at P2;have QJ:b<f9.cur.length:=C9.lt b _ fu;have zn:Sz (K+10*(H+3)) (setN f4 b (1,putE es key val)):=by rw[←be];exact(C9.up (by omega)).setN QJ (by simp only[List.length_set];omega)
      have S5:JS (13*(H+3)) f J (setN f4 b (1,putE es key val)) J4:=by rw[←be];exact(L2.trans (JS.setN _ E1)).up (by omega)
      have HF:=aA (show Dn (13*(H+3)) (fun _=>True) w0 ρ P A f J (w9.setCell ⟨g5,i*3+1,none⟩ (.string val)) ρ9 A9 (setN f4 b (1,putE es key val)) J4∧Sz (K+10*(H+3)) (setN f4 b (1,putE es key val))from⟨⟨P2,CG.trans Ex (fun _ _ e=>e),S5,PO⟩,zn⟩);have lu:w9.drew.cell? ⟨q,1,none⟩=some (.slice (some ⟨g5,0,none⟩) es5.length (es5.length+junk5.length))∧w9.drew.cell? ⟨B,1,none⟩=some (.string val):=⟨by show w9.cell? _=_;rw[IX.box.cell];rfl,by show w9.cell? _=_;rw[MW.cell];rfl⟩;have FA:((i:Nat):Int) <(es5.length:Int):=by omega
      obtain⟨CR,Jd⟩:(∃v,w9.cell? ⟨g5,i*3+1,none⟩=some v)∧w9.frozen? ⟨g5,i*3+1,none⟩=false:=⟨⟨_,(bF (IX.arr g5 rfl).1 (i:=i) (by simp;omega)).2.1⟩,(IX.arr g5 rfl).1.frozen _⟩;obtain⟨ve,CR⟩:=CR;clear P2 Ex zn S5 be Ez pz CG IX MW L2 C9;refine bA (fun W=>W.cell? ⟨q,1,none⟩=some (.slice (some ⟨g5,0,none⟩) es5.length (es5.length+junk5.length))∧W.cell? ⟨B,1,none⟩=some (.string val)) 9 (by kernel_rfl) ?_;refine tJ 0 53 (.pointer (some ⟨q,0,none⟩)) rfl lu ?_;simp only[Act.put,sB,sZ,sS];refine tJ 1 54 (.pointer (some ⟨q,0,none⟩)) rfl lu ?_;simp only[Act.put,sB,sZ,sS];refine tJ 2 55 (.pointer (some ⟨q,1,none⟩)) rfl lu ?_;simp only[Act.put,sB,sZ,sS];refine tJ 3 56 (.slice (some ⟨g5,0,none⟩) es5.length (es5.length+junk5.length)) rfl lu ?_;simp only[Act.put,sB,sZ,sS];refine tJ 4 57 (.int .i64 i) rfl lu ?_;simp only[Act.put,sB,sZ,sS];refine tJ 5 58 (.pointer (some ⟨B,1,none⟩)) rfl lu ?_;simp only[Act.put,sB,sZ,sS];refine tJ 6 59 (.string val) rfl lu ?_;simp only[Act.put,sB,sZ,sS];refine oE 7 rfl fun K2 ae=>?_;go_simp;refine ae _ _ (fun _=>lu) ?_;clear ae K2;refine oE 8 rfl fun K2 ae=>?_;go_simp;refine ae _ _ (fun _=>lu) ?_;clear ae K2;refine oE 9 rfl fun K2 ae=>?_;go_simp;refine ae _ _ (fun q=>absurd rfl q) ?_;clear ae K2;refine aW (by kernel_rfl) ?_ _;go_wp2;go_ret;obtain⟨BH,zn⟩:=HF.out;refine HP.out _ _ _ _ ⟨fun q=>(by rw[rz.out]at q;cases q),fun g th hgt=>?_⟩;rw[rz.out]at hgt;cases hgt;exact⟨ρ9,A9,J4,rfl,BH.below (by first | exact bQ _ _ | exact(bQ _ _).drew),zn⟩))
theorem aEZ(f:fZ)(h:b≠c)(d e:Nd):setN (setN f b d) c e=setN (setN f c e) b d:=by
 have:upd (upd f.nodes b (some d)) c (some e)=upd (upd f.nodes c (some e)) b (some d):=funext fun x=>by
  by_cases e1:x=b<;>by_cases e2:x=c<;>simp[upd,e1,e2]
  ·exact absurd (e1.symm.trans e2) h
  ·intro e;exact absurd e h
  ·intro e;exact absurd e.symm h
 unfold setN;simp only;rw[this]
theorem bD(f:fZ)(d:Nd)(h:x≠b):(setN f b d).nodes x=f.nodes x:=aC _ _ h
theorem sM(f:fZ)(b:Nat)(d:Nd):(setN f b d).nodes b=some d:=aD _ _ _
theorem qS(a:Option Nat)(es junk vs:List E3)(v:Value)(W:World)(ha:∀g,a=some g→IsC W g (bW (es++junk)) 110)(hn:a=none→es=[]∧junk=[])(hv:Esl W v vs)(Ai:es.length+vs.length≤20)(hm:es.length+junk.length≤maxLen)(h0:0<vs.length):
  ∃ua un uc W',(∀ty,(Builtin.append_ #[106,106] ty #[.slice (adr a) es.length (es.length+junk.length),v]).run Tryz.prog W=.ok (.slice ua un uc) W')∧xQ W W' a (.slice ua un uc) (es++vs):=by
 obtain⟨u,W',a',junk',h1,rfl,h3,h4,h5,h6⟩:=xS a es junk vs v W ha hn hv Ai hm;refine⟨_,_,_,W',h1,⟨⟨a',junk',by simp,h3,fun e=>?_,by simpa using h5⟩,h6⟩⟩;have:=(h4 e).2.1;rw[this]at h0;simp at h0
theorem rne(h:b≠c):cE b≠cE c∧cE b≠cB c∧cB b≠cE c∧cB b≠cB c:=by unfold cE cB;omega
theorem aIJ{l:List E3}(h:0<l.length):l.take 1=[l.getD 0 e0]:=by
 cases l with
 | nil=>simp at h
 | cons a l=>rfl
theorem aLP(l:List E3):delE l 0=l.drop 1:=by simp[delE]
theorem aCN(W:World)(k v:ByteArray)(c:Int):(Instr.field 110 (.agg #[.string k,.string v,.int .i64 c]) 2).run Tryz.prog W=.ok (.int .i64 c) W:=by kernel_rfl
theorem aAY(l:List E3)(i:Nat):(l.drop i).getD 0 e0=l.getD i e0:=by simp[gD]
structure FlP(w:World)(ρ:Nat→Nat)(P:Nat)(A:Adr)(f:fZ)(J:List aQ)(b c:Nat)(r:Option fZ)(K:Int)(e:Ending)(w':World):Prop where
 no:r=none→Pk 12 w ρ P f J e w'
 yes:∀g,r=some g→e=.returned (.tuple #[])∧∃ρ' A' J',Dn 12 (fun _=>True) w ρ P A f J w' ρ' A' g J'∧A'.φ b=A.φ b∧A'.φ c=A.φ c∧Sz (K+10) g
theorem yP(w:World)(ρ:Nat→Nat)(P:Nat)(A:Adr)(f:fZ)(J:List aQ)(t H:Nat)(Pt:List Nat)(b h:Nat)(lo hi:OB)(es:List E3)(i c:Nat)(kk:Int)(ces:List E3)(q qc:Nat)(sb:St w ρ P A f J)(hW:Wk f t H)(hp:aN f t H Pt b (h+1) lo hi)(af:f.nodes b=some (2,es))(ak:i+1<es.length)(hc:c=kd es i)(hd:f.nodes c=some (kk,ces))(cc:cu f c=1)(au:ces.length=2)(hφ:A.φ b=some q)(CZ:A.φ c=some qc)(hz:Sz K f)(sw:1≤K)(hK:K≤700000)(ku:J.length≤600000)(qv:Tch b J)(Ei:Tch c J):
  Calls Tryz.prog 142 #[.pointer (some ⟨P,0,none⟩),.pointer (some ⟨q,0,none⟩),.int .i64 i,.pointer (some ⟨qc,0,none⟩)] w (FlP w ρ P A f J b c (fillNext f b i c) K):=by
 have ll:=qP;have Jd:=aCN;obtain⟨i1,ry⟩:=exH (i+1);have fj:=hz.ent b _ af;simp only at fj;have jd:i1<es.length:=by rw[ry.out];exact ak
 obtain⟨s,Hs⟩:=exH (kd es i1);have tj:s∈kids (2,es):=by rw[Hs.out];exact aP jd
 have fi:c∈kids (2,es):=by rw[hc];exact aP (by omega)
 obtain⟨⟨k',ses⟩,iu⟩:=hW.ic.kid_live af tj;obtain⟨es0,q1,e2,e3,e4,e5⟩:=(hp.ok hW.ok).1;rw[af]at q1;cases q1;have ow:k'=kk:=by
  have BN:=(dK (hc▸hd)).1 (e5 i (by omega)).2;have Ao:=(dK (Hs.out▸iu)).1 (e5 i1 jd).2;cases h with
  | zero=>have a1:=BN.1;have a2:=Ao.1;simp only at a1 a2;omega
  | succ h=>have a1:=BN.1;have a2:=Ao.1;simp only at a1 a2;omega
 subst ow;have ti:2≤ses.length:=by have:=(e5 i1 jd).1;unfold sz at this;rw[←Hs.out,iu]at this;exact this
 have C2:=hz.ent s _ iu;simp only at C2;have iN:c≠s:=fun e=>by
  rw[hc,Hs.out]at e;have:=dU (hW.ic.only (hc▸cc) af (hc▸fi)).2.1 (by omega) jd e.symm;have:=ry.out;omega
 have BY:b≠s:=fun e=>hW.ic.not_self af (e▸tj);have nz:b≠c:=fun e=>hW.ic.not_self af (e▸fi);have d9:b<f.cur.length:=hz.lt b _ af;have JM:c<f.cur.length:=hz.lt c _ hd;have eS:s<f.cur.length:=hz.lt s _ iu;have Ba:(es.getD i1 e0).2.2=(s:Int):=by
  have h1:=hW.ic.child_pos af jd;rw[Hs.out];unfold kd ch;omega
 obtain⟨q',junk,e1,ww,wu,hN⟩:=sb.getNode af;rw[hφ]at e1;cases e1;obtain⟨g,hg⟩:=hN.arrOf (by simp only;omega);rw[hg]at hN;obtain⟨qs,junks,SJ,SH,Nl,Ez⟩:=sb.getNode iu;obtain⟨ja,jp,jj,hR,hJ⟩:=id sb;have m3:=hR.cells.m3;have c1:w.cell? ⟨q,1,none⟩=some (.slice (some ⟨g,0,none⟩) es.length (es.length+junk.length)):=by rw[hN.box.cell];rfl
 have c2:w.cell? ⟨g,i1*3+2,none⟩=some (.int .i64 s):=by
  have:=(bF (hN.arr g rfl).1 (i:=i1) (by simp;omega)).2.2
  rw[gD,List.getElem?_append_left jd,←gD]at this;rw[Ba]at this;exact this
 have gx:∀n,(Instr.lookup 68 (.map (some A.m)) (.int .i64 s) false).run Tryz.prog (w.drewN n)=.ok (.pointer (some ⟨qs,0,none⟩)) (w.drewN n):=fun n=>by
  have:=(hR.hm.of (w':=w.drewN n) rfl).lookup s (by have:=hz.n512;omega)
  rw[SJ]at this;simpa only[eT,Option.map_some] using this
 have wt:IntKind.i64.wrap ((i:Int)+1)=(i1:Int):=by
  have:=ry.out
  rw[IntWalk.i64_in _ ⟨by omega,by omega⟩];omega
 have FA:((i1:Nat):Int) <(es.length:Int):=by omega
 have HF:Hid (fillNext f b i c=if 2<ses.length then
   match shadow f (.ent b i1)with
   | none=>none
   | some (k,s)=>some (moveF k b c s (Fo.look k c).1 ((Fo.look k c).2++(Fo.look k s).2.take 1) ((Fo.look k s).2.drop 1) ((Fo.look k b).2.set i1 (ky (Fo.look k s).2 1,((Fo.look k b).2.getD i1 e0).2)))
  else some (mergeF f b c s k' (ces++ses) (delE es i1))):=by
  show fillNext f b i c=_
  unfold fillNext;rw[aE af];simp only;rw[←ry.out,←Hs.out,aE iu,aE hd];rfl
 have HC:=aA (aI hc au);have DD:=aA Ba;clear hc au Ba;go_enter Tryz.func142,Tryz.ntmps142;go_wp2;go_quiet (fail);clear gx c2 m3;by_cases kr:2<ses.length
 ·have AI:decide (2<ses.length)=true:=by simpa using kr
  have mm:=aA kr;clear kr c1;go_wp2_with fail;refine(fW qs (k',ses) _ junks _ (Ez.below (below_drewN _ _))).mono ?_;rintro e w4 ⟨rfl,cn⟩;rw[cn];clear cn w4;have BL:dO f (.ent b i1):=⟨d9,es,af,jd⟩;have BK:gS A (.ent b i1) ⟨g,i1*3+2,none⟩:=⟨g,hg,rfl⟩;go_wp2_with fail;refine(iE _ ρ P A f J (.ent b i1) ⟨g,i1*3+2,none⟩ (sb.below (below_drewN _ _)) hW.ic hz sw (by omega) (by omega) BL BK (fun b' i' e=>by cases e;exact qv)).mono ?_;intro e w4 hT;cases al:shadow f (.ent b i1)with
  | none=>
   obtain⟨rfl,ρ4,A4,g4,J4,a1,a2,a3⟩:=hT.no al;have kq:fillNext f b i c=none:=by rw[HF.out,if_pos mm.out,al]
   exact⟨rfl,fun _=>⟨rfl,ρ4,A4,g4,J4,a1,(Mv.of_below (below_drewN _ _)).trans a2 (fun _ _ e=>e),a3.up (by omega)⟩,fun g bp=>by rw[kq]at bp;cases bp⟩
  | some gc=>
   obtain⟨f4,s4⟩:=gc;obtain⟨ρ4,A4,J4,qs4,rfl,rx,ce,BP,i5⟩:=hT.yes f4 s4 al;have bg:Dn 12 (fun x=>x=s4∨x=bJ f (.ent b i1)) w ρ P A f J w4 ρ4 A4 f4 J4:=⟨ce.st,(Mv.of_below (below_drewN _ _)).trans ce.mv (fun _ _ e=>e),ce.js,ce.ad⟩;clear ce hT;obtain⟨w2,p2,p3,⟨es2,m1,m2,m3,m4⟩,m5,m6,m7,m8,m9⟩:=hW.shadow_ent hp af jd al;obtain⟨s1,s2,s3⟩:=hW.shadow_sib hp af jd al;rw[←Hs.out]at m5 s1 s2;obtain⟨x1,x2,x3⟩:=s2 _ fi iN;have Gp:f4.nodes c=some (k',ces):=by rw[x1];exact hd
   have xu:f4.nodes s4=some (k',ses):=by rw[m5];exact iu
   have KM:s4∈kids (2,es2):=by rw[←m4];exact aP (by rw[m2];exact jd)
   have EE:b≠s4:=fun e=>w2.ic.not_self m1 (e▸KM);have mi:kd es2 i=c:=by rw[HC.out.1];unfold kd;rw[(s3 es2 m1 i).2 (by have:=ry.out;omega)]
   have xq:c≠s4:=fun e=>by
    rw[←mi,←m4]at e;have JK:kd es2 i∈kids (2,es2):=aP (by rw[m2];omega);have:=dU (w2.ic.only (by rw[mi,x2];exact cc) m1 JK).2.1 (by rw[m2];omega) (by rw[m2];exact jd) e.symm;have:=ry.out;omega
   have Bf:bJ f (.ent b i1)=s:=by simp only[bJ,aE af];exact Hs.out.symm
   have MQ:¬(b=s4∨b=bJ f (.ent b i1)):=fun e=>by rw[Bf]at e;rcases e with e | e;exact EE e;exact BY e
   have QA:¬(c=s4∨c=bJ f (.ent b i1)):=fun e=>by rw[Bf]at e;rcases e with e | e;exact xq e;exact iN e
   have By:A4.φ b=some q:=by rw[bg.ad.φ b MQ];exact hφ
   have KV:A4.α b=some g:=by rw[bg.ad.α b MQ];exact hg
   have Bz:A4.φ c=some qc:=by rw[bg.ad.φ c QA];exact CZ
   have sg:Hid (fillNext f b i c=some (moveF f4 b c s4 k' (ces++ses.take 1) (ses.drop 1) (es2.set i1 (ky ses 1,(es2.getD i1 e0).2)))):=by
    show fillNext f b i c=_
    rw[HF.out,if_pos mm.out,al];simp only[aE Gp,aE xu,aE m1]
   clear HF;obtain⟨q4',junks4,e1,Nm,Hp,mr⟩:=bg.st.getNode xu;rw[rx]at e1;cases e1;obtain⟨gs,yc⟩:=mr.arrOf (by simp only;omega);rw[yc]at mr;obtain⟨qc',junkc,e1,DA,wv,tu⟩:=bg.st.getNode Gp;rw[Bz]at e1;cases e1;obtain⟨ac,xh⟩:∃ac,ac=A4.α c:=⟨_,rfl⟩;rw[←xh]at tu;have En:=aA xh;clear xh;have am:w4.drew.cell? ⟨qc,1,none⟩=some (.slice (adr ac) ces.length (ces.length+junkc.length)):=by show w4.cell? _=_;rw[tu.box.cell];rfl
   have HM:=aA (aI m2 (aI m5 (aI m6 m7)));clear m2 m5 m6 m7 AI;go_wp2;refine bA (fun W=>W.cell? ⟨qc,1,none⟩=some (.slice (adr ac) ces.length (ces.length+junkc.length))) 11 (by kernel_rfl) ?_;refine tJ 0 33 (.pointer (some ⟨qc,0,none⟩)) rfl am ?_ (fun w' hw=>by obtain m1:=hw;go_simp;try rfl);simp only[Act.put,sB,sZ,sS];refine tJ 1 34 (.pointer (some ⟨qc,0,none⟩)) rfl am ?_ (fun w' hw=>by obtain m1:=hw;go_simp;try rfl);simp only[Act.put,sB,sZ,sS];refine tJ 2 35 (.pointer (some ⟨qc,0,none⟩)) rfl am ?_ (fun w' hw=>by obtain m1:=hw;go_simp;try rfl);simp only[Act.put,sB,sZ,sS];refine tJ 3 36 (.pointer (some ⟨qc,1,none⟩)) rfl am ?_ (fun w' hw=>by obtain m1:=hw;go_simp;try rfl);simp only[Act.put,sB,sZ,sS];refine tJ 4 37 (.slice (adr ac) ces.length (ces.length+junkc.length)) rfl am ?_ (fun w' hw=>by obtain m1:=hw;go_simp;try rfl);simp only[Act.put,sB,sZ,sS];refine tJ 5 38 (.pointer (some ⟨qs4,0,none⟩)) rfl am ?_ (fun w' hw=>by obtain m1:=hw;go_simp;try rfl);simp only[Act.put,sB,sZ,sS];have tr:Bl w4 w4.drew:=(bQ w4.heap.size w4).drew;refine oE 6 rfl fun K2 ae=>?_;go_simp;refine(gO qs4 gs k' ses junks4 0 w4.drew (mr.below tr) C2 (by omega)).mono ?_;rintro e w5 ⟨rfl,⟨junks5,o6⟩,er⟩;have FZ:Frm (fun x=>x=qs4∨A4.α s4=some x) w4 w5:=(Frm.of_below tr).trans (er.wide fun x _ e=>by rcases e with e | e;exact .inl e;right;rw[yc,e]);rw[aLP]at o6;obtain⟨cq,ng⟩:=bg.st.nodeSame xu rx FZ (by rw[yc];exact o6);obtain⟨r1,r2,r3,r4⟩:=rne xq;have MF:∀x,x=qs4∨x=gs→ρ4 x=cE s4∨ρ4 x=cB s4:=fun x e=>by
    rcases e with e | e<;>rw[e]
    ·exact .inl Nm
    ·exact .inr (Hp gs yc)
   have im:aK w5 qc (k',ces) ac junkc:=(tu.below tr).frm er (fun e=>by
     rcases MF qc e with e | e
     ·exact r1 (DA.symm.trans e)
     ·exact r2 (DA.symm.trans e)) (fun x hx e=>by
     have bq:=wv x (by rw[←En.out];exact hx);rcases MF x e with e | e
     ·exact r3 (bq.symm.trans e)
     ·exact r4 (bq.symm.trans e))
   have oe:w5.cell? ⟨qc,1,none⟩=some (.slice (adr ac) ces.length (ces.length+junkc.length)):=by rw[im.box.cell];rfl
   obtain⟨k0,v0,c0,LW⟩:∃k0 v0 c0,Hid (ses.getD 0 e0=(k0,v0,c0)):=⟨_,_,_,rfl⟩;rw[show aAJ (ses.getD 0 e0)=.agg #[.string k0,.string v0,.int .i64 c0] by rw[LW.out];rfl];refine ae _ _ (fun _=>oe) ?_;clear ae K2 am;refine oE 7 rfl fun K2 ae=>?_;go_simp;obtain⟨G6,zt⟩:=exH (w5.heap.size);obtain⟨W6,BB⟩:=exH (w5.alloc (.cells #[.string k0,.string v0,.int .i64 c0] 110));rw[←BB.out,←zt.out];have y9:IsC W6 G6 (bW [(k0,v0,c0)]) 110:=by rw[BB.out,zt.out];exact IsC.new _ _ _
   have r9:Bl w5 W6:=by rw[BB.out];exact(bQ w5.heap.size w5).alloc (nR _) _
   have oz:=im.below r9;have AY:W6.cell? ⟨qc,1,none⟩=some (.slice (adr ac) ces.length (ces.length+junkc.length)):=by rw[oz.box.cell];rfl
   refine ae _ _ (fun _=>AY) ?_;clear ae K2 oe;have kv:=cq.below r9;obtain⟨ua,un,uc,W7,q8,ej⟩:=qS ac ces junkc [(k0,v0,c0)] (.slice (some ⟨G6,0,none⟩) 1 1) W6 (fun x e=>(oz.arr x e).1) oz.nil (.inr ⟨G6,0,1,[(k0,v0,c0)],rfl,y9,by simp,by simp⟩) (by have:=HC.out.2;simp;omega) oz.small (by simp);refine oE 8 rfl fun K2 ae=>?_;refine mV (.tmp 37) (.tmp 40) _ _ (by rfl) (.slice (adr ac) ces.length (ces.length+junkc.length)) (.slice (some ⟨G6,0,none⟩) 1 1) (by rfl) (by rfl) (.slice ua un uc) W7 (q8 _) ?_;have nm:W7.cell? ⟨qc,1,none⟩=some (.slice (adr ac) ces.length (ces.length+junkc.length)):=(dA (ej.frm.block qc oz.box.lt (fun e=>(oz.arr qc e).2 rfl)) 1).trans AY;have Fv:(setN f4 s4 (k',ses.drop 1)).nodes c=some (k',ces):=(bD _ _ xq).trans Gp;obtain⟨a',-,ni,Am,-,wh⟩:=kv.ins (w1:=W7) (u:=.slice ua un uc) Fv Bz (by rw[←En.out];exact ej);refine ae _ _ (fun _=>nm) ?_;clear ae K2 AY;simp only[Act.put,sB,sZ,sS];refine oE 9 rfl fun K2 ae=>?_;go_simp;refine ae _ _ (fun _=>nm) ?_;clear ae K2;refine oE 10 rfl fun K2 ae=>?_;go_simp;refine ae _ _ (fun _=>nm) ?_;clear ae K2;refine oE 11 rfl fun K2 ae=>?_;go_simp;refine ae _ _ (fun q=>absurd rfl q) ?_;clear ae K2 nm wh;refine aW (by kernel_rfl) ?_ _;have ts:Mv (fun _=>False) w ρ (W7.setCell ⟨qc,1,none⟩ (.slice ua un uc)) (jA ρ4 a' c):=((bg.mv.trans ng (fun _ _ e=>e)).trans (Mv.of_below r9) (fun _ _ e=>e)).trans Am (fun _ _ e=>e);generalize W7.setCell ⟨qc,1,none⟩ (.slice ua un uc)=W8 at *;obtain⟨f8,GY⟩:=exH (setN (setN f4 s4 (k',ses.drop 1)) c (k',ces++[(k0,v0,c0)]));rw[←GY.out]at ni;have NK:f8.nodes s4=some (k',ses.drop 1):=by rw[GY.out,bD _ _ (Ne.symm xq)];exact sM _ _ _
   have oo:f8.nodes b=some (2,es2):=by rw[GY.out,bD _ _ nz,bD _ _ EE];exact m1
   obtain⟨q4',junks8,e1,-,-,MB⟩:=ni.getNode NK;rw[show(dL A4 c a').φ s4=some qs4 from rx]at e1;cases e1;have Xp:(dL A4 c a').α s4=some gs:=(aC _ _ (Ne.symm xq)).trans yc;obtain⟨n5,Hn5⟩:∃n5,Hid ((ses.drop 1).length=n5):=⟨_,rfl⟩;have Bj:0<n5:=by have:=Hn5.out;simp at this;omega
   obtain⟨t1,t2⟩:=MB.first Xp Hn5.out Bj;have ek:ky (ses.drop 1) 0=ky ses 1:=by unfold ky;rw[aAY]
   simp only[ek]at t2;obtain⟨y,HY⟩:=exH (ky ses 1);rw[←HY.out]at t2;obtain⟨q',junkb8,e1,-,-,il⟩:=ni.getNode oo;rw[show(dL A4 c a').φ b=some q from By]at e1;cases e1;have me:(dL A4 c a').α b=some g:=(aC _ _ nz).trans KV;rw[me]at il;have AM:i1<es2.length:=by rw[HM.out.1];exact jd
   have tk:=(bF (il.arr g rfl).1 (i:=i1) (by simp;omega)).1;have tf:=(il.arr g rfl).1.frozen (i1*3);have ol:=il.setc (i:=i1) (j:=0) (v:=.string y) (e':=(y,(es2.getD i1 e0).2)) AM (by omega) (by simp[aJ]);rw[Nat.add_zero]at ol;obtain⟨pz,CG⟩:=ni.nodeSame (w':=W8.setCell ⟨g,i1*3,none⟩ (.string y)) oo By (Frm.set W8 (p:=⟨g,i1*3,none⟩) (.inr me) _) (by rw[me];exact ol);have be:setN f8 b (2,es2.set i1 (y,(es2.getD i1 e0).2))=moveF f4 b c s4 k' (ces++ses.take 1) (ses.drop 1) (es2.set i1 (ky ses 1,(es2.getD i1 e0).2)):=by
    rw[GY.out,HY.out,aEZ _ (Ne.symm xq),aIJ (by omega),LW.out];rfl
   rw[be]at pz;have DH:JS 12 f J (moveF f4 b c s4 k' (ces++ses.take 1) (ses.drop 1) (es2.set i1 (ky ses 1,(es2.getD i1 e0).2))) J4:=by
    refine(((bg.js.trans (JS.setN _ (bg.js.tch c Ei))).trans (JS.setN _ BP)).trans (JS.setN _ (bg.js.tch b qv))).up (by omega)
   have JL:c<f4.cur.length:=i5.lt c _ Gp;have KP:s4<f4.cur.length:=i5.lt s4 _ xu;have I8:b<f4.cur.length:=i5.lt b _ m1;have C9:Sz (K+10) (moveF f4 b c s4 k' (ces++ses.take 1) (ses.drop 1) (es2.set i1 (ky ses 1,(es2.getD i1 e0).2))):=
    ((i5.setN JL (by have:=HC.out.2;simp;omega)).setN KP (by simp;omega)).setN I8 (by have:=HM.out.1;simp;omega)
   have HR:=aA (show Dn 12 (fun _=>True) w ρ P A f J (W8.setCell ⟨g,i1*3,none⟩ (.string y)) (jA ρ4 a' c) (dL A4 c a') (moveF f4 b c s4 k' (ces++ses.take 1) (ses.drop 1) (es2.set i1 (ky ses 1,(es2.getD i1 e0).2))) J4∧Sz (K+10) (moveF f4 b c s4 k' (ces++ses.take 1) (ses.drop 1) (es2.set i1 (ky ses 1,(es2.getD i1 e0).2)))from⟨⟨pz,ts.trans CG (fun _ _ e=>e),DH,(bg.ad.trans (AdS.arr A4 c a')).up fun _ _=>trivial⟩,C9⟩);clear pz CG DH C9 be ol il MB ni ts Am kv cq ng ej oz im y9 bg;go_wp2;first | go_end0 | refine bodyPost_ret (results_none rfl _ _ _) rfl ?_
   obtain⟨BH,zn⟩:=HR.out;refine⟨fun q=>(by rw[sg.out]at q;cases q),fun g' rf=>?_⟩;rw[sg.out]at rf;cases rf;exact⟨rfl,_,_,J4,BH,By.trans hφ.symm,Bz.trans CZ.symm,zn⟩
 ·have AI:decide (2<ses.length)=false:=by simpa using kr
  have mm:=aA kr;clear kr c1;go_wp2_with fail;refine(fW qs (k',ses) _ junks _ (Ez.below (below_drewN _ _))).mono ?_;rintro e w4 ⟨rfl,cn⟩;have dq:Bl w w4:=by rw[cn];exact below_drewN _ _
  clear cn;have aw:=sb.below dq;have mr:=Ez.below dq;obtain⟨az,has⟩:∃az,az=A.α s:=⟨_,rfl⟩;rw[←has]at mr;obtain⟨qc',junkc,e1,DA,wv,tu⟩:=aw.getNode hd;rw[CZ]at e1;cases e1;obtain⟨ac,xh⟩:∃ac,ac=A.α c:=⟨_,rfl⟩;rw[←xh]at tu;have En:=aA xh;clear xh has AI;have am:w4.drew.cell? ⟨qc,1,none⟩=some (.slice (adr ac) ces.length (ces.length+junkc.length))∧w4.drew.cell? ⟨qs,1,none⟩=some (.slice (adr az) ses.length (ses.length+junks.length)):=⟨by show w4.cell? _=_;rw[tu.box.cell];rfl,by show w4.cell? _=_;rw[mr.box.cell];rfl⟩;go_wp2;refine bA (fun W=>W.cell? ⟨qc,1,none⟩=some (.slice (adr ac) ces.length (ces.length+junkc.length))∧W.cell? ⟨qs,1,none⟩=some (.slice (adr az) ses.length (ses.length+junks.length))) 12 (by kernel_rfl) ?_;refine tJ 0 54 (.pointer (some ⟨qc,0,none⟩)) rfl am ?_;simp only[Act.put,sB,sZ,sS];refine tJ 1 55 (.pointer (some ⟨qc,0,none⟩)) rfl am ?_;simp only[Act.put,sB,sZ,sS];refine tJ 2 56 (.pointer (some ⟨qc,0,none⟩)) rfl am ?_;simp only[Act.put,sB,sZ,sS];refine tJ 3 57 (.pointer (some ⟨qc,1,none⟩)) rfl am ?_;simp only[Act.put,sB,sZ,sS];refine tJ 4 58 (.slice (adr ac) ces.length (ces.length+junkc.length)) rfl am ?_;simp only[Act.put,sB,sZ,sS];refine tJ 5 59 (.pointer (some ⟨qs,0,none⟩)) rfl am ?_;simp only[Act.put,sB,sZ,sS];refine tJ 6 60 (.pointer (some ⟨qs,0,none⟩)) rfl am ?_;simp only[Act.put,sB,sZ,sS];refine tJ 7 61 (.pointer (some ⟨qs,1,none⟩)) rfl am ?_;simp only[Act.put,sB,sZ,sS];refine tJ 8 62 (.slice (adr az) ses.length (ses.length+junks.length)) rfl am ?_;simp only[Act.put,sB,sZ,sS];have tr:Bl w4 w4.drew:=(bQ w4.heap.size w4).drew;have im:=tu.below tr;have o6:=mr.below tr;have cq:=aw.below tr;have Ix:∀x,ac=some x→x≠qs:=fun x e e'=>by
   have h1:=(im.arr x e).1;rw[e']at h1;exact IsC.ne h1 o6.box (by decide) rfl
  obtain⟨ua,un,uc,W7,q8,ej⟩:=qS ac ces junkc ses (.slice (adr az) ses.length (ses.length+junks.length)) w4.drew (fun x e=>(im.arr x e).1) im.nil o6.esl (by have:=HC.out.2;omega) im.small (by omega);refine oE 9 rfl fun K2 ae=>?_;refine mV (.tmp 58) (.tmp 62) _ _ (by rfl) (.slice (adr ac) ces.length (ces.length+junkc.length)) (.slice (adr az) ses.length (ses.length+junks.length)) (by rfl) (by rfl) (.slice ua un uc) W7 (q8 _) ?_;have nm:W7.cell? ⟨qc,1,none⟩=some (.slice (adr ac) ces.length (ces.length+junkc.length))∧W7.cell? ⟨qs,1,none⟩=some (.slice (adr az) ses.length (ses.length+junks.length)):=⟨(dA (ej.frm.block qc im.box.lt (fun e=>(im.arr qc e).2 rfl)) 1).trans am.1,(dA (ej.frm.block qs o6.box.lt (fun e=>Ix qs e rfl)) 1).trans am.2⟩;obtain⟨a',-,ni,Am,-,wh⟩:=cq.ins (w1:=W7) (u:=.slice ua un uc) hd CZ (by rw[←En.out];exact ej);refine ae _ _ (fun _=>nm) ?_;clear ae K2 am;simp only[Act.put,sB,sZ,sS];refine oE 10 rfl fun K2 ae=>?_;go_simp;refine ae _ _ (fun _=>nm) ?_;clear ae K2;refine oE 11 rfl fun K2 ae=>?_;go_simp;refine ae _ _ (fun _=>nm) ?_;clear ae K2;obtain⟨Br,-⟩:=nm;refine oE 12 rfl fun K2 ae=>?_;go_simp;refine ae _ _ (fun q=>absurd rfl q) ?_;clear ae K2 Br wh;refine aW (by kernel_rfl) ?_ _;have ts:Mv (fun _=>False) w ρ (W7.setCell ⟨qc,1,none⟩ (.slice ua un uc)) (jA ρ a' c):=((Mv.of_below dq).trans (Mv.of_below tr) (fun _ _ e=>e)).trans Am (fun _ _ e=>e);generalize W7.setCell ⟨qc,1,none⟩ (.slice ua un uc)=W8 at *;have oo:(setN f c (k',ces++ses)).nodes b=some (2,es):=(bD _ _ nz).trans af;obtain⟨q',junkb8,e1,-,-,il⟩:=ni.getNode oo;rw[show(dL A c a').φ b=some q from hφ]at e1;cases e1;have me:(dL A c a').α b=some g:=(aC _ _ nz).trans hg;rw[me]at il;go_wp2_with fail;refine(gO q g 2 es junkb8 i1 W8 il fj jd).mono ?_;rintro e w9 ⟨rfl,⟨junkb9,Cj⟩,wj⟩;obtain⟨k1,v1,FP⟩:∃k1 v1,Hid (es.getD i1 e0=(k1,v1,(s:Int))):=⟨(es.getD i1 e0).1,(es.getD i1 e0).2.1,by show _=_;rw[←DD.out]⟩;rw[show aAJ (es.getD i1 e0)=.agg #[.string k1,.string v1,.int .i64 s] by rw[FP.out];rfl];obtain⟨pz,CG⟩:=ni.nodeSame oo hφ (wj.wide fun x _ e=>by rcases e with e | e;exact .inl e;right;rw[me,e]) (by rw[me];exact Cj);have JU:(setN (setN f c (k',ces++ses)) b (2,delE es i1)).nodes s=some (k',ses):=((bD _ _ (Ne.symm BY)).trans (bD _ _ (Ne.symm iN))).trans iu;have C9:Sz K (setN (setN f c (k',ces++ses)) b (2,delE es i1)):=(hz.setN JM (by have:=HC.out.2;have:=mm.out;simp;omega)).setN d9 (by have:=bI es i1 jd;simp only;omega);have JP:cu (setN (setN f c (k',ces++ses)) b (2,delE es i1)) s=cu f s:=rfl;have DH:JS 0 f J (setN (setN f c (k',ces++ses)) b (2,delE es i1)) J:=(JS.setN _ Ei).trans (JS.setN _ qv);clear Cj il wj;go_wp2_with fail;refine(nU w9 (jA ρ a' c) P (dL A c a') (setN (setN f c (k',ces++ses)) b (2,delE es i1)) J s (k',ses) pz C9 (by omega) (by omega) JU (by rw[JP];have:=hW.ic.cu_pos iu;omega) (fun x hx=>hW.ic.kid_lt iu hx) (aDB hW.ic iu)).mono ?_;rintro e w10 ⟨rfl,ρ10,J10,Cm,Dm,Dk,Em⟩;have BD:AdS (fun _=>True) A (if cu (setN (setN f c (k',ces++ses)) b (2,delE es i1)) s=1 then gP (dL A c a') s else dL A c a')∧(if cu (setN (setN f c (k',ces++ses)) b (2,delE es i1)) s=1 then gP (dL A c a') s else dL A c a').φ b=A.φ b∧(if cu (setN (setN f c (k',ces++ses)) b (2,delE es i1)) s=1 then gP (dL A c a') s else dL A c a').φ c=A.φ c:=by
   split
   ·exact⟨((AdS.arr A c a').trans (AdS.del _ s)).up fun _ _=>trivial,aC _ _ BY,aC _ _ iN⟩
   ·exact⟨(AdS.arr A c a').top,rfl,rfl⟩
  generalize (if cu (setN (setN f c (k',ces++ses)) b (2,delE es i1)) s=1 then gP (dL A c a') s else dL A c a')=A10 at *;have sg:Hid (fillNext f b i c=some (letGo (setN (setN f c (k',ces++ses)) b (2,delE es i1)) s)):=by
   show fillNext f b i c=_
   rw[HF.out,if_neg mm.out];rfl
  clear HF;have HR:=aA (show Dn 12 (fun _=>True) w ρ P A f J w10 ρ10 A10 (letGo (setN (setN f c (k',ces++ses)) b (2,delE es i1)) s) J10∧Sz (K+10) (letGo (setN (setN f c (k',ces++ses)) b (2,delE es i1)) s)from⟨⟨Cm,(ts.trans CG (fun _ _ e=>e)).trans Dm (fun _ _ e=>e),(DH.trans Dk).up (by omega),BD.1⟩,Em⟩);have HA:=aA BD.2;clear BD Cm Dm Dk Em pz CG ni Am ts;go_wp2;first | go_end0 | refine bodyPost_ret (results_none rfl _ _ _) rfl ?_
  obtain⟨BH,zn⟩:=HR.out;refine⟨fun q=>(by rw[sg.out]at q;cases q),fun g' rf=>?_⟩;rw[sg.out]at rf;cases rf;exact⟨rfl,_,_,J10,BH,HA.out.1,HA.out.2,zn⟩
