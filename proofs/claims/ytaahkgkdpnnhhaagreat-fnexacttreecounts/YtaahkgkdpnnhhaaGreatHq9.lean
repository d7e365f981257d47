import Derived.Test.YtaahkgkdpnnhhaaGreatHq8
set_option maxHeartbeats 9999999
set_option maxRecDepth 99999
set_option linter.all false
namespace Go.Proofs.YtaahkgkdpnnhhaaGreat
open Go.RowKit Fo
theorem dA{w W:World}{x:Nat}(h:W.heap[x]?=w.heap[x]?)(i:Nat):W.cell? ⟨x,i,none⟩=w.cell? ⟨x,i,none⟩:=by simp[World.cell?,h]
theorem St.rootCell{w:World}{ρ:Nat→Nat}{P:Nat}{A:Adr}{f:fZ}{J:List aR}(h:St w ρ P A f J){t:Nat}(ht:t<f.roots.length)(h0:0≤(f.roots.getD t (0,0)).2):w.cell? ⟨A.ra,t*2+1,none⟩=some (.int .i64 (aB f t))∧w.frozen? ⟨A.ra,t*2+1,none⟩=false:=by
 obtain⟨_,_,_,hR,_⟩:=id h;refine⟨?_,hR.hr.frozen _⟩;rw[hR.hr.cell,(kM (f.roots++A.rj) (i:=t) (by simp;omega)).2];have e1:(f.roots++A.rj).getD t (0,0)=f.roots.getD t (0,0):=by rw[gD,List.getElem?_append_left ht,←gD]
 rw[e1];simp only[aB];rw[show(((f.roots.getD t (0,0)).2.toNat:Nat):Int)=(f.roots.getD t (0,0)).2 by omega]
theorem aM.first{w:World}{q:Nat}{d:Nd}{a:Option Nat}{junk:List E3}(h:aM w q d a junk){g:Nat}(ha:a=Option.some g){n:Nat}(hn:d.2.length=n)(h0:0<n):w.cell? ⟨q,1,none⟩=Option.some (.slice (Option.some ⟨g,0,none⟩) n (n+junk.length))∧w.cell? ⟨g,0,none⟩=Option.some (.string (ky d.2 0)):=by
 subst ha;refine⟨by rw[h.box.cell];simp[adr,hn],?_⟩;have:=(bH (h.arr g rfl).1 (i:=0) (by simp;omega)).1;rw[gD,List.getElem?_append_left (by omega),←gD]at this;simpa [ky] using this
theorem aM.arrOf{w:World}{q:Nat}{d:Nd}{a:Option Nat}{junk:List E3}(h:aM w q d a junk)(h0:0<d.2.length):∃g,a=Option.some g:=by
 obtain⟨g,e,_⟩:=h.some h0;exact⟨g,e⟩
theorem iT(W:World)(k:ByteArray)(c:Int):(Instr.build 110 #[(0,.string k),(2,.int .i64 c)]).run Tryz.prog W=.ok (.agg #[.string k,.string .empty,.int .i64 c]) W:=by kernel_rfl
theorem aJZ(W:World)(k0 v0 k1 v1:ByteArray)(c0 c1:Int):(Instr.buildSlice 106 2 #[(0,.agg #[.string k0,.string v0,.int .i64 c0]),(1,.agg #[.string k1,.string v1,.int .i64 c1])]).run Tryz.prog W=.ok (.slice (some ⟨W.heap.size,0,none⟩) 2 2) (W.alloc (.cells #[.string k0,.string v0,.int .i64 c0,.string k1,.string v1,.int .i64 c1] 110)):=by kernel_rfl
structure GrS(q g q1 g1:Nat)(p:Addr)(n c n1 c1:Nat)(k0 k1:ByteArray)(r:Nat)(w:World):Prop where
 a1:w.cell? ⟨q,1,none⟩=some (.slice (some ⟨g,0,none⟩) 3 c)
 a2:w.cell? ⟨g,0,none⟩=some (.string k0)
 a3:w.cell? p=some (.int .i64 r)
 a4:w.cell? ⟨q1,1,none⟩=some (.slice (some ⟨g1,0,none⟩) 2 c1)
 a5:w.cell? ⟨g1,0,none⟩=some (.string k1)
structure GrP(w:World)(ρ:Nat→Nat)(P:Nat)(A:Adr)(f:fZ)(J:List aR)(t r:Nat)(K:Int)(e:Ending)(w':World):Prop where
 no:bM f t r=none→Pk 2 w ρ P f J e w'
 yes:∀g top,bM f t r=some (g,top)→∃ρ' A' J' q,e=.returned (.pointer (some ⟨q,0,none⟩))∧A'.φ top=some q∧Dn 2 (fun _=>True) w ρ P A f J w' ρ' A' g J'∧Tch top J'∧Sz K g
theorem yJ{K:Int}(w:World)(ρ:Nat→Nat)(P:Nat)(A:Adr)(f:fZ)(J:List aR)(t r:Nat)(k:Int)(es:List E3)(h:St w ρ P A f J)(hI:IC f)(hz:Sz K f)(hK1:1≤K)(hK:K≤800000)(hJl:J.length≤700000)(ht:t<f.roots.length)(hr:aB f t=r)(hd:f.nodes r=some (k,es))(h5:es.length=5)(htc:Tch r J):
  Calls Tryz.prog 117 #[.pointer (some ⟨P,0,none⟩),.pointer (some ⟨A.ra,t*2+1,none⟩)] w (GrP w ρ P A f J t r K):=by
 have hrl:r<f.cur.length:=hz.lt r _ hd;have h0:0≤(f.roots.getD t (0,0)).2:=(hI.rb _ (aP ht)).1;obtain⟨hc0,-⟩:=h.rootCell ht h0;rw[hr]at hc0;obtain⟨ja,jp,jj,hR,hJ⟩:=id h;have m3:=hR.cells.m3;obtain⟨q,junk,hφ,hρq,hρa,hN⟩:=h.getNode hd;obtain⟨g,hg⟩:=hN.arrOf (by simp;omega);rw[hg]at hN;have hlk:∀n,(Instr.lookup 68 (.map (some A.m)) (.int .i64 r) false).run Tryz.prog (w.drewN n)=.ok (.pointer (some ⟨q,0,none⟩)) (w.drewN n):=fun n=>by
  have:=(hR.hm.of (w':=w.drewN n) rfl).lookup r (by have:=hz.n512;omega)
  rw[hφ]at this;simpa only[eY,Option.map_some] using this
 have hbd:=iT;have hbs:=aJZ;have hbn:=gQ;have HR:=aA (aI hr h5);clear hr h5;go_enter Tryz.func117,Tryz.ntmps117;go_wp2;go_quiet (fail);clear hlk m3 hc0;go_wp2_with fail;refine(nI q g k es junk _ (hN.below (below_drewN _ _)) (by have:=HR.out.2;omega) (by have:=HR.out.2;omega)).mono ?_;rintro e w1 ⟨q1,a1,j1,junk1,rfl,k1,k2,k3,k4,kF⟩;have kF':Frm (fun x=>x=q∨A.α r=some x) w w1:=(Frm.of_below (below_drewN _ _)).trans (kF.wide fun x _ e=>by rcases e with e | e;exact .inl e;right;rw[hg,e]);have e53:es.length-2=3:=by have:=HR.out.2;omega
 rw[e53]at k3 k4;obtain⟨hS1,hM1⟩:=h.nodeSame hd hφ kF' (by rw[hg];exact k4);have hsz0:w.heap.size≤q1:=k1;have hρ0:∀x,w.heap.size≤x→ρ x=0:=fun x hx=>Nat.eq_zero_of_not_pos fun q=>absurd (hR.own x (by omega)) (by omega);have hz1:Sz K (setN f r (k,es.take 3)):=hz.setN hrl (by simp;omega);have hJ1:JS 0 f J (setN f r (k,es.take 3)) J:=JS.setN _ htc;obtain⟨g1,hg1⟩:=k3.arrOf (by have:=HR.out.2;simp;omega);subst hg1;have k2':w.heap.size≤g1:=k2 g1 rfl;have hlk0:Fo.look f r=(k,es):=aE hd;go_wp2_with fail;refine(nH w1 ρ P A _ J q1 (k,es.drop 3) (some g1) j1 hS1 hz1 (by omega) (by omega) k3 (hρ0 q1 hsz0) (fun x e=>by cases e;exact hρ0 g1 k2')).mono ?_;intro e w2 hT;by_cases hl:aF f=0
 ·obtain⟨rfl,hB2⟩:=hT.no hl
  have hsh:bM f t r=none:=by unfold bM;rw[if_pos hl]
  exact⟨rfl,fun _=>⟨rfl,ρ,A,_,J,hS1.below hB2,hM1.trans (Mv.of_below hB2) (fun _ _ e=>e),hJ1.up (by omega)⟩,fun g c hgc=>by rw[hsh]at hgc;cases hgc⟩
 ·obtain⟨he,ρ2,hS2,hM2,-⟩:=hT.yes hl
  have hlf:aF (setN f r (k,es.take 3))=aF f:=rfl;rw[hlf]at he hS2;subst he;obtain⟨l1,l2,l3,l4⟩:=aQ hl;have hqd:f.nodes (aF f)=none:=(hI.dom.dead _).2 l3;have HG:Hid (bM f t r=if aF (takeAt (setN f r (k,es.take 3)) (aF f) (k,es.drop 3))=0 then none else some (growF f t r k es 3 (aF f) (aF (takeAt (setN f r (k,es.take 3)) (aF f) (k,es.drop 3))) (ky es 0) (ky es 3),aF (takeAt (setN f r (k,es.take 3)) (aF f) (k,es.drop 3)))):=by
   show bM f t r=_
   unfold bM;rw[if_neg hl,hlk0]
  generalize aF f=z at *;have hrz:r≠z:=fun e=>by rw[e,hqd]at hd;cases hd
  have hM2':Mv (fun _=>False) w ρ w2 ρ2:=((hM1.up (Y:=fun x=>x=q1∨some g1=some x) (fun _ _ e=>e.elim)).trans hM2 (fun _ _ e=>e)).up fun x hx e=>by
   rcases e with e | e
   ·omega
   ·cases e;omega
  have hz2:Sz K (takeAt (setN f r (k,es.take 3)) z (k,es.drop 3)):=hz1.takeAt hK1 l2 (by simp;omega);have hd2:(takeAt (setN f r (k,es.take 3)) z (k,es.drop 3)).nodes r=some (k,es.take 3):=by
   show upd (upd f.nodes r _) z _ r=_
   rw[aC _ _ hrz,aD]
  have hd2z:(takeAt (setN f r (k,es.take 3)) z (k,es.drop 3)).nodes z=some (k,es.drop 3):=aD _ _ _;obtain⟨hc2,hfz2⟩:=hS2.rootCell (t:=t) ht h0;rw[show aB (takeAt (setN f r (k,es.take 3)) z (k,es.drop 3)) t=r from HR.out.1,show(cT A z q1 (some g1)).ra=A.ra from rfl]at hc2;obtain⟨q',junk2,u1,-,-,u2⟩:=hS2.getNode hd2;have u3:(cT A z q1 (some g1)).φ r=some q:=by show upd A.φ z _ r=_;rw[aC _ _ hrz];exact hφ
  rw[u3]at u1;cases u1;have u4:(cT A z q1 (some g1)).α r=some g:=by show upd A.α z _ r=_;rw[aC _ _ hrz];exact hg
  obtain⟨q1',junk3,v1,-,-,v2⟩:=hS2.getNode hd2z;have v3:(cT A z q1 (some g1)).φ z=some q1:=aD _ _ _;rw[v3]at v1;cases v1;have v4:(cT A z q1 (some g1)).α z=some g1:=aD _ _ _;have f1:=u2.first u4 (n:=3) (by have:=HR.out.2;simp;omega) (by omega);have f2:=v2.first v4 (n:=2) (by have:=HR.out.2;simp;omega) (by omega);have ek0:ky (es.take 3) 0=ky es 0:=by unfold ky;simp[gD,List.getElem?_take]
  have ek1:ky (es.drop 3) 0=ky es 3:=by unfold ky;simp[gD]
  rw[ek0]at f1;rw[ek1]at f2;have hlt:∀x,(x=q∨x=g∨x=A.ra∨x=q1∨x=g1)→x<w2.heap.size:=fun x hx=>by
   obtain⟨_,_,_,hR2,_⟩:=id hS2;rcases hx with e | e | e | e | e<;>rw[e]
   ·exact u2.box.lt
   ·exact(u2.arr g u4).1.lt
   ·exact hR2.hr.lt
   ·exact v2.box.lt
   ·exact(v2.arr g1 v4).1.lt
  have HS:Hid (∀W:World,(∀x,(x=q∨x=g∨x=A.ra∨x=q1∨x=g1)→W.heap[x]?=w2.heap[x]?)→GrS q g q1 g1 ⟨A.ra,t*2+1,none⟩ 3 (3+junk2.length) 2 (2+junk3.length) (ky es 0) (ky es 3) r W):=fun W hW=>
   ⟨(dA (hW _ (by simp)) _).trans f1.1,(dA (hW _ (by simp)) _).trans f1.2,(dA (hW _ (by simp)) _).trans hc2,(dA (hW _ (by simp)) _).trans f2.1,(dA (hW _ (by simp)) _).trans f2.2⟩
  have hq0:=HS.out w2.drew (fun _ _=>rfl);obtain⟨f2',hf2'⟩:∃f2',f2'=takeAt (setN f r (k,es.take 3)) z (k,es.drop 3):=⟨_,rfl⟩;have HF2:=aA hf2';have hJ2:JS 1 f J f2' (J++[(z,cu (setN f r (k,es.take 3)) z,(setN f r (k,es.take 3)).nodes z)]):=by rw[hf2'];exact(hJ1.trans (JS.save l2)).trans (JS.takeAt _ Tch.saved)
  rw[←hf2']at hS2 hz2 HG;generalize J++[(z,cu (setN f r (k,es.take 3)) z,(setN f r (k,es.take 3)).nodes z)]=J2 at *;obtain⟨c2,hc2'⟩:∃c2,c2=3+junk2.length:=⟨_,rfl⟩;obtain⟨c3,hc3'⟩:∃c3,c3=2+junk3.length:=⟨_,rfl⟩;rw[←hc2',←hc3']at HS hq0;obtain⟨y0,hy0⟩:∃y0,y0=ky es 0:=⟨_,rfl⟩;obtain⟨y1,hy1⟩:∃y1,y1=ky es 3:=⟨_,rfl⟩;rw[←hy0,←hy1]at HS hq0 HG;have HL:=aA hlt;clear hf2' hc2' hc3' hy0 hy1 f1 f2 hc2 u2 v2 hd2 hd2z hT hM2 hS1 hM1 k3 k4 kF kF' hN hlt hfz2 ek0 ek1 u3 v3 e53;go_wp2;refine aZ (GrS q g q1 g1 ⟨A.ra,t*2+1,none⟩ 3 c2 2 c3 y0 y1 r) 27 (by kernel_rfl) ?_;refine tJ 0 21 (.pointer (some ⟨A.ra,t*2+1,none⟩)) rfl hq0 ?_;simp only[Act.put,sB,sZ,sS];refine tJ 1 22 (.pointer (some ⟨P,0,none⟩)) rfl hq0 ?_;simp only[Act.put,sB,sZ,sS];refine tJ 2 23 (.pointer (some ⟨q,0,none⟩)) rfl hq0 ?_;simp only[Act.put,sB,sZ,sS];refine tJ 3 24 (.pointer (some ⟨q,0,none⟩)) rfl hq0 ?_;simp only[Act.put,sB,sZ,sS];refine tJ 4 25 (.pointer (some ⟨q,1,none⟩)) rfl hq0 ?_;simp only[Act.put,sB,sZ,sS];refine tJ 5 26 (.slice (some ⟨g,0,none⟩) 3 c2) rfl hq0 ?_;simp only[Act.put,sB,sZ,sS];refine tJ 6 27 (.pointer (some ⟨g,0,none⟩)) rfl hq0 ?_;simp only[Act.put,sB,sZ,sS];refine tJ 7 28 (.pointer (some ⟨g,0,none⟩)) rfl hq0 ?_;simp only[Act.put,sB,sZ,sS];refine tJ 8 29 (.string y0) rfl hq0 ?_;simp only[Act.put,sB,sZ,sS];refine tJ 9 30 (.pointer (some ⟨A.ra,t*2+1,none⟩)) rfl hq0 ?_;simp only[Act.put,sB,sZ,sS];refine tJ 10 31 (.pointer (some ⟨A.ra,t*2+1,none⟩)) rfl hq0 ?_;simp only[Act.put,sB,sZ,sS];refine tJ 11 32 (.int .i64 r) rfl hq0 ?_;simp only[Act.put,sB,sZ,sS];refine tJ 12 33 (.agg #[.string y0,.string .empty,.int .i64 r]) rfl hq0 ?_;simp only[Act.put,sB,sZ,sS];refine tJ 13 34 (.pointer (some ⟨q1,0,none⟩)) rfl hq0 ?_;simp only[Act.put,sB,sZ,sS];refine tJ 14 35 (.pointer (some ⟨q1,0,none⟩)) rfl hq0 ?_;simp only[Act.put,sB,sZ,sS];refine tJ 15 36 (.pointer (some ⟨q1,1,none⟩)) rfl hq0 ?_;simp only[Act.put,sB,sZ,sS];refine tJ 16 37 (.slice (some ⟨g1,0,none⟩) 2 c3) rfl hq0 ?_;simp only[Act.put,sB,sZ,sS];refine tJ 17 38 (.pointer (some ⟨g1,0,none⟩)) rfl hq0 ?_;simp only[Act.put,sB,sZ,sS];refine tJ 18 39 (.pointer (some ⟨g1,0,none⟩)) rfl hq0 ?_;simp only[Act.put,sB,sZ,sS];refine tJ 19 40 (.string y1) rfl hq0 ?_;simp only[Act.put,sB,sZ,sS];refine tJ 20 41 (.int .i64 z) rfl hq0 ?_;simp only[Act.put,sB,sZ,sS];refine tJ 21 42 (.agg #[.string y1,.string .empty,.int .i64 z]) rfl hq0 ?_;simp only[Act.put,sB,sZ,sS];obtain⟨G3,HG3⟩:=exH (w2.heap.size);refine oE 22 rfl fun K2 hK2=>?_;go_simp;obtain⟨W3,HW3⟩:=exH ((w2.alloc (.cells #[.string y0,.string .empty,.int .i64 r,.string y1,.string .empty,.int .i64 z] 110)).drew);rw[←HW3.out,←HG3.out];have hN3:IsC W3 G3 (bX [(y0,.empty,(r:Int)),(y1,.empty,(z:Int))]) 110:=by rw[HW3.out,HG3.out];exact(IsC.new w2 _ _).drew
  have hB3:Bl w2 W3:=by rw[HW3.out];exact((bQ w2.heap.size w2).alloc (nR _) _).drew
  have hq3:=HS.out W3 fun x hx=>hB3.block x (HL.out x hx);refine hK2 _ _ (fun _=>hq3) ?_;clear hK2 K2 hq0;refine oE 23 rfl fun K2 hK2=>?_;go_simp;refine hK2 _ _ (fun _=>hq3) ?_;clear hK2 K2;refine oE 24 rfl fun K2 hK2=>?_;go_simp;obtain⟨Q4,HQ4⟩:=exH (W3.heap.size);obtain⟨W4,HW4⟩:=exH (W3.alloc (.cells #[.int .i64 2,.slice (some ⟨G3,0,none⟩) 2 2] 108));rw[←HW4.out,←HQ4.out];have hB4:Bl w2 W4:=by rw[HW4.out];exact hB3.alloc hB3.size _
  have hq4:=HS.out W4 fun x hx=>hB4.block x (HL.out x hx);have hN4:aM W4 Q4 (2,[(y0,.empty,(r:Int)),(y1,.empty,(z:Int))]) (some G3) []:=by
   refine⟨?_,fun x e=>?_,fun e=>(by cases e),by simp[maxLen]⟩
   ·rw[HW4.out,HQ4.out];exact IsC.new _ _ _
   ·cases e
    refine⟨?_,?_⟩
    ·rw[HW4.out];simpa using hN3.alloc _
    ·rw[HQ4.out];exact Nat.ne_of_lt hN3.lt
  have hQ4:w2.heap.size≤Q4:=by rw[HQ4.out];exact hB3.size
  have hG3:w2.heap.size≤G3:=by rw[HG3.out];exact nR _
  refine hK2 _ _ (fun _=>hq4) ?_;clear hK2 K2 hq3;have hS4:=hS2.below hB4;have hρ2:∀x,w2.heap.size≤x→ρ2 x=0:=fun x hx=>Nat.eq_zero_of_not_pos fun q=>by
   obtain⟨_,_,_,hR2,_⟩:=id hS2;exact absurd (hR2.own x (by omega)) (by omega)
  have hJ2l:J2.length≤700001:=by have:=hJ2.len;omega
  refine oE 25 rfl fun K2 hK2=>?_;go_simp;refine(nH W4 ρ2 P (cT A z q1 (some g1)) f2' J2 Q4 _ (some G3) [] hS4 hz2 (by omega) (by omega) hN4 (hρ2 _ hQ4) (fun x e=>by cases e;exact hρ2 _ hG3)).mono ?_;intro e w5 hT;by_cases hl5:aF f2'=0
  ·obtain⟨rfl,hB5⟩:=hT.no hl5
   have hsh:bM f t r=none:=by rw[HG.out,if_pos hl5]
   exact⟨rfl,fun _=>⟨rfl,ρ2,_,f2',J2,hS4.below hB5,(hM2'.trans (Mv.of_below hB4) (fun _ _ e=>e)).trans (Mv.of_below hB5) (fun _ _ e=>e),hJ2.up (by omega)⟩,fun g c hgc=>by rw[hsh]at hgc;cases hgc⟩
  ·obtain⟨rfl,ρ5,hS5,hM5,hF5⟩:=hT.yes hl5
   have hsh:bM f t r=some (growF f t r k es 3 z (aF f2') y0 y1,aF f2'):=by rw[HG.out,if_neg hl5]
   obtain⟨n1,n2,n3,n4⟩:=aQ hl5;have hJ5:JS 2 f J (takeAt f2' (aF f2') (2,[(y0,.empty,(r:Int)),(y1,.empty,(z:Int))])) (J2++[(aF f2',cu f2' (aF f2'),f2'.nodes (aF f2'))]):=(hJ2.trans (JS.save n2)).trans (JS.takeAt _ Tch.saved);have hT5:Tch (aF f2') (J2++[(aF f2',cu f2' (aF f2'),f2'.nodes (aF f2'))]):=Tch.saved;have hz5:Sz K (takeAt f2' (aF f2') (2,[(y0,.empty,(r:Int)),(y1,.empty,(z:Int))])):=hz2.takeAt hK1 n2 (by simp);have hrw:∀x,x<w2.heap.size→ρ2 x≠1→ρ2 x≠6→ρ2 x≠3→ρ2 x≠4→w5.heap[x]?=w2.heap[x]?:=fun x hx e1 e2 e3 e4=>(hF5.block x (lL hx hB4.size) (by omega)).trans (hB4.block x hx);generalize J2++[(aF f2',cu f2' (aF f2'),f2'.nodes (aF f2'))]=J5 at *;generalize aF f2'=top at *;have hM5':Mv (fun _=>False) w ρ w5 ρ5:=(((hM2'.trans (Mv.of_below hB4) (fun _ _ e=>e)).up (Y:=fun x=>x=Q4∨some G3=some x) (fun _ _ e=>e.elim)).trans hM5 (fun _ _ e=>e)).up fun x hx e=>by
    have:=hM2'.frm.size
    rcases e with e | e
    ·omega
    ·cases e;omega
   have hrt:(takeAt f2' top (2,[(y0,.empty,(r:Int)),(y1,.empty,(z:Int))])).roots=f.roots:=by show f2'.roots=_;rw[HF2.out];rfl
   obtain⟨hc5,hfz5⟩:=hS5.rootCell (t:=t) (by rw[hrt];exact ht) (by rw[hrt];exact h0);have hrb:aB (takeAt f2' top (2,[(y0,.empty,(r:Int)),(y1,.empty,(z:Int))])) t=r:=by unfold aB;rw[hrt];exact HR.out.1
   rw[hrb,show(cT (cT A z q1 (some g1)) top Q4 (some G3)).ra=A.ra from rfl]at hc5;rw[show(cT (cT A z q1 (some g1)) top Q4 (some G3)).ra=A.ra from rfl]at hfz5;have hL5:dQ (takeAt f2' top (2,[(y0,.empty,(r:Int)),(y1,.empty,(z:Int))])) (.root t):=by show t<_;rw[hrt];exact ht
   obtain⟨hS6,hM6⟩:=hS5.setLoc hL5 (p:=⟨A.ra,t*2+1,none⟩) rfl top;have hz6:=hz5.setL hL5 top;have hJ6:=hJ5.trans (JS.setL (.root t) top fun b i e=>(by cases e));have hgf:setL (takeAt f2' top (2,[(y0,.empty,(r:Int)),(y1,.empty,(z:Int))])) (.root t) top=growF f t r k es 3 z top y0 y1:=by rw[HF2.out];rfl
   rw[hgf]at hS6 hz6 hJ6;have hro:ρ2 q=cE r∧ρ2 g=cC r∧ρ2 A.ra=2∧ρ2 q1=cE z∧ρ2 g1=cC z:=by
    obtain⟨_,_,_,hR2,_⟩:=id hS2;obtain⟨x1,y1',z1,z2,z3,-⟩:=hS2.getNode (b:=r) (d:=(k,es.take 3)) (by rw[HF2.out];show upd (upd f.nodes r _) z _ r=_;rw[aC _ _ hrz,aD]);obtain⟨x2,y2',v1,v2,v3,-⟩:=hS2.getNode (b:=z) (d:=(k,es.drop 3)) (by rw[HF2.out];exact aD _ _ _);have u3:(cT A z q1 (some g1)).φ r=some q:=by show upd A.φ z _ r=_;rw[aC _ _ hrz];exact hφ
    rw[u3]at z1;cases z1;rw[show(cT A z q1 (some g1)).φ z=some q1 from aD _ _ _]at v1;cases v1;exact⟨z2,z3 g u4,hR2.rr,v2,v3 g1 v4⟩
   have hq5:=HS.out w5 fun x hx=>by
    obtain⟨o1,o2,o3,o4,o5⟩:=hro;refine hrw x (HL.out x hx) ?_ ?_ ?_ ?_<;>(rcases hx with e | e | e | e | e<;>rw[e]<;>first | rw[o1] | rw[o2] | rw[o3] | rw[o4] | rw[o5])<;>first | omega | (unfold cE;omega) | (unfold cC;omega)
   have hφ6:(cT (cT A z q1 (some g1)) top Q4 (some G3)).φ top=some Q4:=aD _ _ _;obtain⟨ja6,jp6,jj6,hR6,hJ6'⟩:=id hS6;have o3:=hR6.cells.m3;rw[show(cT (cT A z q1 (some g1)) top Q4 (some G3)).m=A.m from rfl]at o3;have hrb6:aB (growF f t r k es 3 z top y0 y1) t=top:=by
    rw[←hgf];exact(jG hL5 top).1
   have hrl6:(growF f t r k es 3 z top y0 y1).roots.length=f.roots.length:=by rw[←hgf];show(List.set _ _ _).length=_;rw[List.length_set,hrt]
   have hR0:((growF f t r k es 3 z top y0 y1).roots.getD t (0,0)).2=(top:Int):=by
    rw[←hgf];show((List.set _ t _).getD t (0,0)).2=_
    rw[bA _ _ _ _ _ (by rw[hrt];exact ht),if_pos rfl]
   have hc6:(w5.setCell ⟨A.ra,t*2+1,none⟩ (.int .i64 (top:Int))).cell? ⟨A.ra,t*2+1,none⟩=some (.int .i64 (top:Int)):=by
    have h6:=(hS6.rootCell (t:=t) (by rw[hrl6];exact ht) (by rw[hR0];omega)).1;rw[hrb6]at h6;exact h6
   have hlk6:∀n,(Instr.lookup 68 (.map (some A.m)) (.int .i64 top) false).run Tryz.prog ((w5.setCell ⟨A.ra,t*2+1,none⟩ (.int .i64 (top:Int))).drewN n)=.ok (.pointer (some ⟨Q4,0,none⟩)) ((w5.setCell ⟨A.ra,t*2+1,none⟩ (.int .i64 (top:Int))).drewN n):=fun n=>by
    have:=(hR6.hm.of (w':=(w5.setCell ⟨A.ra,t*2+1,none⟩ (.int .i64 (top:Int))).drewN n) rfl).lookup top (by have:=hz6.n512;have:=n2;have:=hz2.n512;omega)
    rw[hφ6]at this;rw[show(cT (cT A z q1 (some g1)) top Q4 (some G3)).m=A.m from rfl]at this;simpa only[eY,Option.map_some] using this
   have HF:=aA (show Dn 2 (fun _=>True) w ρ P A f J (w5.setCell ⟨A.ra,t*2+1,none⟩ (.int .i64 (top:Int))) ρ5 (cT (cT A z q1 (some g1)) top Q4 (some G3)) (growF f t r k es 3 z top y0 y1) J5∧Tch top J5∧Sz K (growF f t r k es 3 z top y0 y1)from⟨⟨hS6,hM5'.trans hM6 (fun _ _ e=>e),hJ6.up (by omega),⟨rfl,rfl,rfl,rfl,rfl,rfl,rfl,fun _ q=>absurd trivial q,fun _ q=>absurd trivial q⟩⟩,hT5,hz6⟩);have HS5:=aA hsh;refine hK2 _ _ (fun _=>hq5) ?_;clear hK2 K2 hq4 hsh hS6 hM6 hz6 hJ6 hgf hrb6 hrl6 hR0 hR6 hJ6' hS5 hM5 hF5 hJ5 hT5 hz5 hrw hM5' hrt hrb hL5 hro hT hS2 hS4 hM2' hz2 hJ2 HG;refine oE 26 rfl fun K2 hK2=>?_;go_simp;refine hK2 _ _ (fun _=>hq5) ?_;clear hK2 K2;refine oE 27 rfl fun K2 hK2=>?_;go_simp;refine hK2 _ _ (fun q=>absurd rfl q) ?_;clear hK2 K2;refine aV (by kernel_rfl) ?_ _;go_wp2;go_quiet (fail);go_wp2;go_ret;obtain⟨hFin,hT4,hz4⟩:=HF.out;refine⟨fun q=>(by rw[HS5.out]at q;cases q),fun g c hgc=>?_⟩;rw[HS5.out]at hgc;cases hgc;exact⟨ρ5,_,J5,Q4,rfl,hφ6,hFin.below (below_drewN _ _),hT4,hz4⟩
