import Derived.Test.YtmpagpeenjddgaaGreatRt1
set_option maxHeartbeats 9999999
set_option maxRecDepth 99999
set_option linter.all false
namespace Go.Proofs.YtmpagpeenjddgaaGreat
open Go.RowKit Fo
theorem zR(base g:Nat)(a:Option Addr)(c:Nat)(zs:List Int)(p:St2)(H:Int)(h0:0<H)(h1:H<=600000)(w:World)(hs:dP base g a c zs p w):
  Calls Tryz.prog 27 #[.pointer (some ⟨g,0,none⟩),.int .i64 H] w fun e w'=>∃u,e=.returned u/\yO.Own w.heap.size w' u (doR zs p H).1/\dP base g a c zs (doR zs p H).2 w'/\Frm (·=g) w w':=by
 have wt:=hs.lt;have HL:Hid (yO.Own w.heap.size (w.alloc (.cells #[] 33)) (.slice (some ⟨w.heap.size,0,none⟩) 0 0) []):=Ely.Own.lit _ _ (nR _) _ rfl;have HR:Hid (doR zs p H=zC zs (nxV zs (nxS zs p) 4) (4+nxV zs p H).toNat (4+nxV zs p H).toNat 1 [] (nxS zs (nxS zs p))):=rfl;have hv:=bO zs p (n:=H) h0 (by omega);have cx:=bO zs (nxS zs p) (n:=4) (by decide) (by decide);generalize doR zs p H=R at *;go_enter Tryz.func27,Tryz.ntmps27;go_wp2_with fail;refine(aZ base g a c zs p H h0 (by omega) _ (hs.below (aOY _ _))).mono ?_;rintro e w1 ⟨rfl,ez,qe⟩;obtain⟨n,hn⟩:∃n:Nat,4+nxV zs p H=(n:Int):=⟨(4+nxV zs p H).toNat,by omega⟩;have OW:IntKind.i64.wrap (4+nxV zs p H)=(n:Int):=by rw[hn];exact IntWalk.i64_in _ ⟨by omega,by omega⟩
 have YS:n<=600004:=by omega
 rw[hn,Int.toNat_natCast]at HR;clear hn;generalize nxV zs p H=v at *;go_wp2_with fail;refine(aZ base g a c zs _ 4 (by decide) (by decide) _ ez).mono ?_;rintro e w2 ⟨rfl,ku,lw⟩;generalize nxV zs (nxS zs p) 4=f at *;generalize nxS zs (nxS zs p)=p2 at *;have jm:Hid (yO.Own w.heap.size w2 (.slice (some ⟨w.heap.size,0,none⟩) 0 0) []/\dP base g a c zs p2 w2/\Frm (·=g) w w2):=⟨(HL.out.ae qe fun r hr q=>by omega).ae lw fun r hr q=>by omega,ku,((Frm.alloc _ _ _).trans qe).trans lw⟩;clear HL hs ez ku qe lw hv;go_wp2_with fail;go_loopw [5,8,9,10,11,12] (fun ov idv i _ _ _ wr=>∃(l:List TO) (d:Int) (q:St2) (m:Nat),l.length+m=n/\i=.int .i64 l.length/\idv=.int .i64 d/\1<=d/\d<=l.length+1/\Hid (R=zC zs f n m d l q)/\yO.Own w.heap.size wr ov l/\dP base g a c zs q wr/\Frm (·=g) w wr) (fun _ _ i _ _ _ _=>n -(intOf i).toNat)
 case atStart=>exact⟨[],1,p2,n,by simp,rfl,rfl,by omega,by simp,HR,jm.out.1,jm.out.2.1,jm.out.2.2⟩
 case round=>
  obtain⟨l,d,q,m,hm,rfl,rfl,N,AK,HQ,hO,hS,hF⟩:=hrel;clear jm HR;cases m with
  | zero=>
   obtain rfl:l.length=n:=by omega
   have hE:R=(l,q):=HQ.out;have kr:¬(l.length:Int) <(l.length:Int):=by omega
   subst hE;go_wp2;go_ret;exact⟨_,rfl,hO,hS,hF⟩
  | succ m=>
   have kr:(l.length:Int) <(n:Int):=by omega
   obtain⟨ra,y,rfl,ET,Cw⟩:=hO;have v1:=bO zs q (n:=d) (by omega) (by omega);have v2:=bO zs (nxS zs q) (n:=3) (by decide) (by decide);have v3:=bO zs (nxS zs (nxS zs q)) (n:=40) (by decide) (by decide);have v4:=bO zs (nxS zs (nxS zs (nxS zs q))) (n:=100) (by decide) (by decide);have HO:Hid (opR zs f n d l q=aOM zs f n d l (opT zs q d) (nxV zs (nxS zs (nxS zs (nxS zs q))) 100) (dkR zs (nxS zs (nxS zs (nxS zs (nxS zs q))))).2 (dkR zs (nxS zs (nxS zs (nxS zs (nxS zs q))))).1):=rfl;have Tr:Hid (R=zC zs f n m (opR zs f n d l q).2.2 (l++[(opR zs f n d l q).1]) (opR zs f n d l q).2.1):=HQ.out;have HT:Hid (opT zs q d=if nxV zs (nxS zs (nxS zs q)) 40=0 then d else if 0<nxV zs (nxS zs q) 3 then 0 else nxV zs q d):=rfl;clear HQ;generalize opR zs f n d l q=OP at *;generalize opT zs q d=tree at *;have HW:Hid (yO.Rw wr ra l y/\(∀r,ra=some r->w.heap.size<=r)/\Frm (·=g) w wr):=⟨ET,Cw,hF⟩;clear ET Cw hF;go_wp2_with fail;refine(aZ base g a c zs q d (by omega) (by omega) _ hS).mono ?_;rintro e w3 ⟨rfl,vb,DS⟩;go_wp2_with fail;refine(aZ base g a c zs _ 3 (by decide) (by decide) _ vb).mono ?_;rintro e w4 ⟨rfl,vd,Fi⟩;generalize nxV zs q d=t0 at *;generalize nxV zs (nxS zs q) 3=t1 at *;obtain⟨V,HT1⟩:∃x,Hid ((if 0<t1 then 0 else t0)=x):=⟨_,rfl⟩;go_upto_if 30 with fail
   go_cut [10] (fun s10 E=>s10=.int .i64 V/\E=w4)
   case first=>as_aux_lemma=>
    by_cases hb:0<t1
    ·obtain rfl:0=V:=by rw[<-HT1.out,if_pos hb]
     go_wp2
     go_meet
     exact⟨rfl,rfl⟩
    ·obtain rfl:t0=V:=by rw[<-HT1.out,if_neg hb]
     go_wp2
     go_meet
     exact⟨rfl,rfl⟩
   case rest=>as_aux_lemma=>
    obtain⟨rfl,rfl⟩:=hcut;go_wp2_with fail;refine(aZ base g a c zs _ 40 (by decide) (by decide) _ vd).mono ?_;rintro e w5 ⟨rfl,Fs,og⟩;generalize nxV zs (nxS zs (nxS zs q)) 40=t2 at *;have Bc:Hid (tree=if t2=0 then d else V):=by show tree=_;rw[HT.out,HT1.out]
    clear HT HT1;go_upto_if 33 with fail
    go_cut [10] (fun s10 E=>s10=.int .i64 tree/\E=w5)
    case first=>as_aux_lemma=>
     by_cases hb:t2=0
     ·have hx:tree=d:=by rw[Bc.out,if_pos hb]
      clear Bc;subst hx;go_wp2;go_meet;exact⟨rfl,rfl⟩
     ·have hx:tree=V:=by rw[Bc.out,if_neg hb]
      clear Bc;subst hx;go_wp2;go_meet;exact⟨rfl,rfl⟩
    case rest=>as_aux_lemma=>
     obtain⟨rfl,rfl⟩:=hcut;clear Bc;go_wp2_with fail;refine(aZ base g a c zs _ 100 (by decide) (by decide) _ Fs).mono ?_;rintro e w6 ⟨rfl,IW,NU⟩;generalize nxV zs (nxS zs (nxS zs (nxS zs q))) 100=O at *;generalize nxS zs (nxS zs (nxS zs (nxS zs q)))=p4 at *;go_wp2_with fail;refine(zQ base g a c zs p4 _ IW).mono ?_;rintro e w7 ⟨rfl,VU,Uy⟩;have gw:=aIC zs p4;generalize (dkR zs p4).1=key at *;generalize (dkR zs p4).2=p5 at *;have xg:Frm (·=g) wr w7:=(((DS.trans Fi).trans og).trans NU).trans Uy;have hB:DoB base g a c zs w w7.heap.size ra l y p5 (1,tree,key,{data:=#[]}) (w7.alloc (.cells #[.int .i64 1,.int .i64 tree,.string key,.string {data:=#[]}] 33)):=by
      have hz:=xg.size;have AP:=HW.out.2.2.size;have xq:yO.Rw w7 ra l y:=HW.out.1.ae xg fun r e q=>by have:=HW.out.2.1 r e;omega
      exact⟨VU.below (aOY _ _),xq.ae (S:=fun _=>False) (Frm.alloc _ _ _) fun _ _=>id,IsC.new _ _ _,(HW.out.2.2.trans xg).trans (Frm.alloc _ _ _),wt,by omega,fun r e=>⟨HW.out.2.1 r e,by have:=(xq.arr r e).lt;omega⟩⟩
     clear vb vd Fs IW DS Fi og NU Uy xg HW hS;have v5:=bO zs p5 (n:=26) (by decide) (by decide);go_wp2_with fail;refine(aZ base g a c zs p5 26 (by decide) (by decide) _ hB.src).mono ?_;rintro e w8 ⟨rfl,Ft,Lo⟩;have Ho:=hB.next Ft Lo;generalize w7.heap.size=B0 at *;have e1:((l.length:Nat):Int).tmod 26=(l.length:Int) % 26:=Int.tmod_eq_emod_of_nonneg (by omega);have e2:IntKind.i64.wrap ((l.length:Int) % 26)=(l.length:Int) % 26:=IntWalk.i64_in _ ⟨by omega,by omega⟩;have e3:IntKind.i64.wrap (97+(l.length:Int) % 26)=97+(l.length:Int) % 26:=IntWalk.i64_in _ ⟨by omega,by omega⟩;have e4:IntKind.u8.wrap (97+(l.length:Int) % 26)=97+(l.length:Int) % 26:=IntWalk.u8_in _ ⟨by omega,by omega⟩;have Tk:Hid (OP=opB zs f d l (nxS zs p5) (aFZ f n l.length (aFY f O)) tree (opY f O l.length key) (txB [65+nxV zs p5 26,97+(l.length:Int) % 26])):=HO.out;generalize nxV zs p5 26=Z at *;generalize nxS zs p5=t at *;have e5:IntKind.i64.wrap (65+Z)=65+Z:=IntWalk.i64_in _ ⟨by omega,by omega⟩;have e6:IntKind.u8.wrap (65+Z)=65+Z:=IntWalk.u8_in _ ⟨by omega,by omega⟩;have hc:=rM w8 (65+Z) (97+(l.length:Int) % 26) (by omega) (by omega) w8.heap.size rfl;have Z1:(txB [65+Z,97+(l.length:Int) % 26]).size=2:=lR _;generalize txB [65+Z,97+(l.length:Int) % 26]=val at *;have FQ:=Ho.bp (aOY w8 (.cells #[.int .u8 (65+Z),.int .u8 (97+(l.length:Int) % 26)] 5));have L4:Hid (DoB base g a c zs w B0 ra l y t (1,tree,key,val) ((w8.alloc (.cells #[.int .u8 (65+Z),.int .u8 (97+(l.length:Int) % 26)] 5)).setCell ⟨B0,3,none⟩ (.string val))):=FQ.put 3 (.string val) (1,tree,key,val) rfl;obtain⟨_,_,_,Y,_,_,_,f3⟩:=FQ.cells;clear hB Ho FQ Ft Lo VU HO;go_upto_region 16 with fail
     generalize (w8.alloc (.cells #[.int .u8 (65+Z),.int .u8 (97+(l.length:Int) % 26)] 5)).setCell ⟨B0,3,none⟩ (.string val)=w9 at *;clear e1 e2 e3 e4 e5 e6 hc Y f3;obtain⟨U,au⟩:∃U:Bool,decide (f=1/\O<70)=U:=⟨_,rfl⟩;go_cut [57] (fun s57 E=>s57=.bool U/\E=w9)
     case first=>as_aux_lemma=>
      by_cases z:f=1
      ·by_cases D:O<70
       ·have:U=true:=by rw[<-au];simp[z,D]
        subst this;have q1b:(f == 1)=true:=by simp[z]
        clear au z;go_wp2;go_meet;exact⟨rfl,rfl⟩
       ·have:U=false:=by rw[<-au];simp[z,D]
        subst this;have q1b:(f == 1)=true:=by simp[z]
        clear au z;go_wp2;go_meet;exact⟨rfl,rfl⟩
      ·have:U=false:=by rw[<-au];simp[z]
       subst this;clear au;go_wp2;go_meet;exact⟨rfl,rfl⟩
     case rest=>as_aux_lemma=>
      obtain⟨rfl,rfl⟩:=hcut;have D4:Hid (aFY f O=if U=true then 0 else O):=by show aFY f O=_;rw[<-au];unfold aFY;simp
      have Hk:Hid (opY f O l.length key=if U=true then ris l.length else key):=by show opY f O l.length key=_;rw[<-au];unfold opY;simp
      clear au;generalize aFY f O=J at *;generalize opY f O l.length key=s at *;go_upto_if 57 with fail
      go_cut [11] (fun s11 E=>s11=.int .i64 J/\DoB base g a c zs w B0 ra l y t (1,tree,s,val) E)
      case first=>as_aux_lemma=>
       cases U with
       | true=>
        have r1:J=0:=D4.out;have r2:s=ris l.length:=Hk.out;clear D4 Hk;subst r1 r2;go_wp2_with fail;refine(kE l.length (by omega) (by omega) _).mono ?_;rintro e w10 ⟨rfl,CB⟩;have Bi:=L4.out.bp CB;obtain⟨_,_,X,_,_,_,f2,_⟩:=Bi.cells;have Pj:=Bi.put 2 (.string (ris l.length)) (1,tree,ris l.length,val) rfl;clear Bi;go_wp2;go_meet;exact⟨rfl,Pj⟩
       | false=>
        have r1:J=O:=D4.out;have r2:s=key:=Hk.out;clear D4 Hk;subst r1 r2;go_wp2;go_meet;exact⟨rfl,L4.out⟩
      case rest=>as_aux_lemma=>
       obtain⟨rfl,C8⟩:=hcut;have G:Hid (DoB base g a c zs w B0 ra l y t (1,tree,s,val) wc):=C8;have e1:((n:Nat):Int).tdiv 2=(n:Int) / 2:=Int.tdiv_eq_ediv_of_nonneg (by omega);have e2:IntKind.i64.wrap ((n:Int) / 2)=(n:Int) / 2:=IntWalk.i64_in _ ⟨by omega,by omega⟩;have gh:0<=J/\J<100:=by rcases Bool.eq_false_or_eq_true U with q | q<;>rw[D4.out,q]<;>simp<;>omega
       have Pc:s.size<=12:=by
        have:=aJN l.length
        rcases Bool.eq_false_or_eq_true U with q | q<;>rw[Hk.out,q]<;>simp<;>omega
       clear D4 Hk L4 C8;go_upto_region 19 with fail
       obtain⟨X,bh⟩:∃X:Bool,decide (f=3/\(n:Int) / 2<l.length)=X:=⟨_,rfl⟩;go_cut [68] (fun s68 E=>s68=.bool X/\E=wc)
       case first=>as_aux_lemma=>
        by_cases z:f=3
        ·by_cases D:(n:Int) / 2<l.length
         ·have:X=true:=by rw[<-bh];simp[z,D]
          subst this;have q1b:(f == 3)=true:=by simp[z]
          clear bh z;go_wp2;go_meet;exact⟨rfl,rfl⟩
         ·have:X=false:=by rw[<-bh];simp[z,D]
          subst this;have q1b:(f == 3)=true:=by simp[z]
          clear bh z;go_wp2;go_meet;exact⟨rfl,rfl⟩
        ·have:X=false:=by rw[<-bh];simp[z]
         subst this;clear bh;go_wp2;go_meet;exact⟨rfl,rfl⟩
       case rest=>as_aux_lemma=>
        obtain⟨rfl,rfl⟩:=hcut;have He:Hid (aFZ f n l.length J=if X=true then J+30 else J):=by show aFZ f n l.length J=_;rw[<-bh];unfold aFZ;simp
        clear bh e1 e2;generalize aFZ f n l.length J=k at *;have YH:IntKind.i64.wrap (J+30)=J+30:=IntWalk.i64_in _ ⟨by omega,by omega⟩;go_upto_if 68 with fail
        go_cut [11] (fun s11 E=>s11=.int .i64 k/\E=wc)
        case first=>as_aux_lemma=>
         cases X with
         | true=>
          have r1:k=J+30:=He.out;clear He;subst r1;go_wp2;go_meet;exact⟨rfl,rfl⟩
         | false=>
          have r1:k=J:=He.out;clear He;subst r1;go_wp2;go_meet;exact⟨rfl,rfl⟩
        case rest=>as_aux_lemma=>
         obtain⟨rfl,rfl⟩:=hcut;have wu:0<=k/\k<130:=by rcases Bool.eq_false_or_eq_true X with q | q<;>rw[He.out,q]<;>simp<;>omega
         clear He YH;go_upto_region 21 with fail
         obtain⟨Y,M⟩:∃Y:Bool,decide (55<=k/\k<75\/100<=k)=Y:=⟨_,rfl⟩;go_cut [80] (fun s80 E=>s80=.bool Y/\E=wc)
         case first=>as_aux_lemma=>
          by_cases z:55<=k
          ·by_cases D:k<75
           ·have:Y=true:=by rw[<-M];simp[z,D]
            subst this;clear M;go_wp2;go_meet;exact⟨rfl,rfl⟩
           ·by_cases q3:100<=k
            ·have:Y=true:=by rw[<-M];simp[q3]
             subst this;clear M;go_wp2;go_meet;exact⟨rfl,rfl⟩
            ·have:Y=false:=by rw[<-M];simp[D,q3]
             subst this;clear M;go_wp2;go_meet;exact⟨rfl,rfl⟩
          ·have q3:¬100<=k:=by omega
           have:Y=false:=by rw[<-M];simp[z,q3]
           subst this;clear M;go_wp2;go_meet;exact⟨rfl,rfl⟩
         case rest=>as_aux_lemma=>
          obtain⟨rfl,rfl⟩:=hcut;go_upto_if 80 with fail
          go_cut [8] (fun s8 E=>∃(o:TO) (p':St2) (B:Int),s8=.int .i64 B/\1<=B/\B<=l.length+2/\Hid (opB zs f d l t k tree s val=(o,p',B))/\DoB base g a c zs w B0 ra l y p' o E)
          case first=>as_aux_lemma=>
           cases Y with
           | true=>
            have I:55<=k/\k<75\/100<=k:=of_decide_eq_true M;have Q:Hid (opB zs f d l t k tree s val=if nxV zs t 2=0/\0<l.length then((2,tree,(l.getD (nxV zs (nxS zs t) l.length).toNat yO.z).2.2.1,val),nxS zs (nxS zs t),d)else((2,tree,s,val),nxS zs t,d)):=by show opB zs f d l t k tree s val=_;unfold opB;rw[if_pos I]
            clear M I;obtain⟨c0,_,_,_,f0,_⟩:=G.out.cells;have T:=toHid' (G.out.put 0 (.int .i64 2) (2,tree,s,val) rfl);have v6:=bO zs t (n:=2) (by decide) (by decide);go_wp2_with fail;refine(aZ base g a c zs t 2 (by decide) (by decide) _ T.out.src).mono ?_;rintro e w10 ⟨rfl,uh,DR⟩;have K:=T.out.next uh DR;generalize nxV zs t 2=C at *;obtain⟨b6,kh⟩:∃b6:Bool,(C == 0)=b6:=⟨_,rfl⟩;by_cases z:C=0
            ·by_cases D:0<l.length
             ·have q2i:(0:Int) <(l.length:Int):=by omega
              have A:=toHid' (Q.out.trans (if_pos ⟨z,D⟩));have:b6=true:=by rw[<-kh];simp[z]
              subst this;have v7:=bO zs (nxS zs t) (n:=l.length) (by omega) (by omega);clear Q z;go_wp2_with fail;refine(aZ base g a c zs (nxS zs t) l.length (by omega) (by omega) _ K.src).mono ?_;rintro e w11 ⟨rfl,E8,Ew⟩;have GF:=K.next E8 Ew;obtain⟨j,hj⟩:∃j:Nat,nxV zs (nxS zs t) l.length=(j:Int):=⟨(nxV zs (nxS zs t) l.length).toNat,by omega⟩;rw[hj,Int.toNat_natCast]at A;rw[hj]at v7 |-;obtain⟨r,hr,wu⟩:=GF.key D (j:=j) (by omega);have sc:(j:Int) <(l.length:Int):=v7.2;rw[hr];obtain⟨_,_,c2,_,_,_,f2,_⟩:=GF.cells;have Pr:=toHid' (GF.put 2 (.string (l.getD j yO.z).2.2.1) (2,tree,(l.getD j yO.z).2.2.1,val) rfl);generalize (l.getD j yO.z).2.2.1=kk at *;clear K GF hj;go_wp2;rw[<-hr];go_meet;exact⟨_,_,_,rfl,N,by omega,A,Pr.out⟩
             ·have q2i:¬(0:Int) <(l.length:Int):=by omega
              have A:=toHid' (Q.out.trans (if_neg fun q=>D q.2));have:b6=true:=by rw[<-kh];simp[z]
              subst this;clear Q z;go_wp2;go_meet;exact⟨_,_,_,rfl,N,by omega,A,K⟩
            ·have A:=toHid' (Q.out.trans (if_neg fun q=>z q.1))
             have:b6=false:=by rw[<-kh];simp[z]
             subst this;clear Q;go_wp2;go_meet;exact⟨_,_,_,rfl,N,by omega,A,K⟩
           | false=>
            have I:¬(55<=k/\k<75\/100<=k):=of_decide_eq_false M;clear M;go_upto_region 25 with fail
            obtain⟨b4,fw⟩:∃b4:Bool,decide (75<=k/\k<81\/f=2/\k<12/\0<k)=b4:=⟨_,rfl⟩;go_cut [114] (fun s114 E=>s114=.bool b4/\E=wc)
            case first=>as_aux_lemma=>
             obtain⟨b5,ef⟩:∃b5:Bool,(f == 2)=b5:=⟨_,rfl⟩;have Ee:b4=(decide (75<=k) && decide (k<81) || b5 && decide (k<12) && decide (0<k)):=by
              rw[<-fw,<-ef];by_cases x:f=2<;>simp[x,Bool.decide_or,Bool.decide_and,Bool.and_assoc]
             clear fw;by_cases x1:75<=k<;>by_cases x2:k<81<;>by_cases x4:k<12<;>by_cases x5:0<k<;>cases b5
             all_goals
              first
               | (exfalso;omega)
               | (simp[x1,x2,x4,x5]at Ee;subst Ee;go_wp2;go_meet;exact⟨rfl,rfl⟩)
            case rest=>as_aux_lemma=>
             obtain⟨rfl,rfl⟩:=hcut;cases b4 with
             | true=>
              have L:75<=k/\k<81\/f=2/\k<12/\0<k:=of_decide_eq_true fw;have A:Hid (opB zs f d l t k tree s val=((3,tree,s,val),t,d+1)):=by show opB zs f d l t k tree s val=_;unfold opB;rw[if_neg I,if_pos L]
              obtain⟨c0,_,_,_,f0,_⟩:=G.out.cells;have T:=toHid' (G.out.put 0 (.int .i64 3) (3,tree,s,val) rfl);have Y3:IntKind.i64.wrap (d+1)=d+1:=IntWalk.i64_in _ ⟨by omega,by omega⟩;clear fw L I;go_wp2;go_meet;exact⟨_,_,_,rfl,by omega,by omega,A,T.out⟩
             | false=>
              have L:¬(75<=k/\k<81\/f=2/\k<12/\0<k):=of_decide_eq_false fw;have F:Hid (opB zs f d l t k tree s val=_):=(if_neg I).trans (if_neg L);obtain⟨c0,c1,c2,c3,f0,f1,f2,f3⟩:=G.out.cells;clear fw;by_cases r1:k<81
              ·have x0:¬81<=k:=by omega
               have x1:¬84<=k:=by omega
               have x2:¬91<=k:=by omega
               have x3:¬k=97:=by omega
               have x4:¬k=98:=by omega
               have x5:¬k=99:=by omega
               have A:Hid (opB zs f d l t k tree s val=((1,tree,s,val),t,d)):=by show opB zs f d l t k tree s val=_;rw[F.out,if_neg (by omega),if_neg (by omega),if_neg (by omega),if_neg x3,if_neg x4,if_neg x5]
               clear F I L r1;go_wp2;go_meet;exact⟨_,_,_,rfl,N,by omega,A,G.out⟩
              ·have x0:81<=k:=by omega
               by_cases r2:k<84
               ·have A:Hid (opB zs f d l t k tree s val=((4,nxV zs t d,s,val),nxS zs t,d)):=by show opB zs f d l t k tree s val=_;rw[F.out,if_pos ⟨x0,r2⟩]
                have T:=toHid' (G.out.put 0 (.int .i64 4) (4,tree,s,val) rfl);clear F I L;go_wp2_with fail;refine(aZ base g a c zs t d (by omega) (by omega) _ T.out.src).mono ?_;rintro e w10 ⟨rfl,uh,DR⟩;have K:=T.out.next uh DR;generalize nxV zs t d=C at *;obtain⟨_,d1,_,_,_,g1,_⟩:=K.cells;have L6:=toHid' (K.put 1 (.int .i64 C) (4,C,s,val) rfl);clear K;go_wp2;go_meet;exact⟨_,_,_,rfl,N,by omega,A,L6.out⟩
               ·have x1:84<=k:=by omega
                by_cases r3:k<91
                ·have A:Hid (opB zs f d l t k tree s val=((5,tree,s,val),t,d)):=by show opB zs f d l t k tree s val=_;rw[F.out,if_neg (by omega),if_pos ⟨x1,r3⟩]
                 have T:=toHid' (G.out.put 0 (.int .i64 5) (5,tree,s,val) rfl);clear F I L;go_wp2;go_meet;exact⟨_,_,_,rfl,N,by omega,A,T.out⟩
                ·have x2:91<=k:=by omega
                 by_cases r4:k<97
                 ·have Q:Hid (opB zs f d l t k tree s val=if 0<l.length then((6,tree,(l.getD (nxV zs t l.length).toNat yO.z).2.2.1,val),nxS zs t,d)else((6,tree,s,val),t,d)):=by show opB zs f d l t k tree s val=_;rw[F.out,if_neg (by omega),if_neg (by omega),if_pos ⟨x2,r4⟩]
                  have I8:=G.out.put 0 (.int .i64 6) (6,tree,s,val) rfl;clear F I L;by_cases D:0<l.length
                  ·have q2i:(0:Int) <(l.length:Int):=by omega
                   have A:=toHid' (Q.out.trans (if_pos D));have v7:=bO zs t (n:=l.length) (by omega) (by omega);clear Q;go_wp2_with fail;refine(aZ base g a c zs t l.length (by omega) (by omega) _ I8.src).mono ?_;rintro e w11 ⟨rfl,E8,Ew⟩;have GF:=I8.next E8 Ew;obtain⟨j,hj⟩:∃j:Nat,nxV zs t l.length=(j:Int):=⟨(nxV zs t l.length).toNat,by omega⟩;rw[hj,Int.toNat_natCast]at A;rw[hj]at v7 |-;obtain⟨r,hr,wu⟩:=GF.key D (j:=j) (by omega);have sc:(j:Int) <(l.length:Int):=v7.2;rw[hr];obtain⟨_,_,d2,_,_,_,g2,_⟩:=GF.cells;have Pr:=toHid' (GF.put 2 (.string (l.getD j yO.z).2.2.1) (6,tree,(l.getD j yO.z).2.2.1,val) rfl);generalize (l.getD j yO.z).2.2.1=kk at *;clear GF I8 hj;go_wp2;rw[<-hr];go_meet;exact⟨_,_,_,rfl,N,by omega,A,Pr.out⟩
                  ·have q2i:¬(0:Int) <(l.length:Int):=by omega
                   have A:=toHid' (Q.out.trans (if_neg D));have T:=toHid' I8;clear Q I8;go_wp2;go_meet;exact⟨_,_,_,rfl,N,by omega,A,T.out⟩
                 ·by_cases r5:k=97
                  ·have r5b:(k == 97)=true:=by simp[r5]
                   have A:Hid (opB zs f d l t k tree s val=((nxV zs t 10-2,tree,s,val),nxS zs t,d)):=by show opB zs f d l t k tree s val=_;rw[F.out,if_neg (by omega),if_neg (by omega),if_neg (by omega),if_pos r5]
                   have v7:=bO zs t (n:=10) (by decide) (by decide);clear F I L r5;go_wp2_with fail;refine(aZ base g a c zs t 10 (by decide) (by decide) _ G.out.src).mono ?_;rintro e w11 ⟨rfl,E8,Ew⟩;have K:=G.out.next E8 Ew;generalize nxV zs t 10=C at *;have sg:IntKind.i64.wrap (C-2)=C-2:=IntWalk.i64_in _ ⟨by omega,by omega⟩;obtain⟨d0,_,_,_,g0,_⟩:=K.cells;have L6:=toHid' (K.put 0 (.int .i64 (C-2)) (C-2,tree,s,val) rfl);clear K;go_wp2;go_meet;exact⟨_,_,_,rfl,N,by omega,A,L6.out⟩
                  ·by_cases r6:k=98
                   ·have r6b:(k == 98)=true:=by simp[r6]
                    have A:Hid (opB zs f d l t k tree s val=((1,tree,s++s98,val),t,d)):=by show opB zs f d l t k tree s val=_;rw[F.out,if_neg (by omega),if_neg (by omega),if_neg (by omega),if_neg r5,if_pos r6]
                    have PY:s98.size=11:=rfl;have q9:∀W:World,(Op.stringOp .add s s98).run Tryz.prog W=.ok (.string (s++s98)) W:=fun W=>run_string_add_sum (P:=Tryz.prog) (w:=W) s s98 (by omega);have L6:=toHid' (G.out.put 2 (.string (s++s98)) (1,tree,s++s98,val) rfl);clear F I L r6;go_wp2;go_meet;exact⟨_,_,_,rfl,N,by omega,A,L6.out⟩
                   ·by_cases r7:k=99
                    ·have r7b:(k == 99)=true:=by simp[r7]
                     have A:Hid (opB zs f d l t k tree s val=((1,tree,s,s99++val.extract 0 (nxV zs t 2).toNat),nxS zs t,d)):=by show opB zs f d l t k tree s val=_;rw[F.out,if_neg (by omega),if_neg (by omega),if_neg (by omega),if_neg r5,if_neg r6,if_pos r7]
                     clear F I L r7;have v7:=bO zs t (n:=2) (by decide) (by decide);have C3:Hid (∀W:World,Bl wc W->W.heap=wc.heap->Calls Tryz.prog 28 #[.pointer (some ⟨g,0,none⟩),.int .i64 2] W fun e w'=>e=.returned (.int .i64 (nxV zs t 2))/\DoB base g a c zs w B0 ra l y (nxS zs t) (1,tree,s,val) w'):=fun W hW _=>
                      (aZ base g a c zs t 2 (by decide) (by decide) W (G.out.bp hW).src).mono fun e w' ⟨z,D,q3⟩=>⟨z,(G.out.bp hW).next D q3⟩
                     generalize nxV zs t 2=C at *;have h2:C<=(val.size:Int):=by omega
                     have ah:(val.extract 0 C.toNat).size=C.toNat:=by rw[ByteArray.size_extract];omega
                     have PY:s99.size=10:=rfl;have q9:∀W:World,(Op.stringOp .add s99 (val.extract 0 C.toNat)).run Tryz.prog W=.ok (.string (s99++val.extract 0 C.toNat)) W:=fun W=>run_string_add_sum (P:=Tryz.prog) (w:=W) s99 (val.extract 0 C.toNat) (by omega);have ry:Hid (∀W:World,DoB base g a c zs w B0 ra l y (nxS zs t) (1,tree,s,val) W->∀W',Bl W W'->DoB base g a c zs w B0 ra l y (nxS zs t) (1,tree,s,s99++val.extract 0 C.toNat) (W'.setCell ⟨B0,3,none⟩ (.string (s99++val.extract 0 C.toNat)))):=fun W h W' h'=>(h.bp h').put 3 _ _ rfl;go_upto_region 42 with fail
                     have QI:=toHid' (C3.out wc.drew ⟨rfl,rfl,rfl,nR _,fun _ _=>rfl⟩ rfl);go_region_with (go_at_call 28;refine QI.out.mono ?_;rintro e w11 ⟨rfl,C8⟩;obtain⟨_,_,_,d3,_,_,_,g3⟩:=C8.cells;have Pl:=toHid' C8;clear C8)
                     all_goals
                      go_wp2
                      go_meet
                      exact⟨_,_,_,rfl,N,by omega,A,ry.out _ Pl.out _ ⟨rfl,rfl,rfl,nR _,fun _ _=>rfl⟩⟩
                    ·have A:Hid (opB zs f d l t k tree s val=((1,tree,s,val),t,d)):=by show opB zs f d l t k tree s val=_;rw[F.out,if_neg (by omega),if_neg (by omega),if_neg (by omega),if_neg r5,if_neg r6,if_neg r7]
                     clear F I L;go_wp2;go_meet;exact⟨_,_,_,rfl,N,by omega,A,G.out⟩
          case rest=>as_aux_lemma=>
           obtain⟨o,p',B,rfl,Nm,Ze,Tl,I9⟩:=hcut;have HE:Hid (R=zC zs f n m B (l++[o]) p'):=by show R=_;rw[Tr.out,Tk.out,Tl.out]
           obtain⟨c0,c1,c2,c3,_⟩:=I9.cells;have Hw:yO.Own w.heap.size wc (.slice (adr ra) l.length (l.length+y.length)) l:=⟨ra,y,rfl,I9.row,fun r e=>(I9.ne r e).1⟩;have ay:=I9.ae.size;have LT:Hid (dP base g a c zs p' wc/\Frm (·=g) w wc):=⟨I9.src,I9.ae⟩;clear I9 G Tr Tk Tl;go_wp2_with (first | (at_builtin;refine yO.av rfl _ _ rfl Hw rfl o rfl rfl (by omega) ay ?_;intro v' w12 bd bx y9));have Nc:=LT.out.1.lo;refine⟨⟨l++[o],B,p',m,by simp;omega,by simp,rfl,Nm,by simp;omega,HE,bd,LT.out.1.ae y9 (fun q=>by omega) (fun b q=>by omega),?_⟩,by simp[intOf];omega⟩;exact((LT.out.2.wide (S':=fun k=>k=g\/w.heap.size<=k) fun k _ q=>.inl q).trans (y9.wide fun k _ q=>.inr q.1)).wide fun k hk q=>q.elim id fun q=>by omega
abbrev rgR:ByteArray:={data:=#[114]}
abbrev rgS:ByteArray:={data:=#[115]}
abbrev rgE:ByteArray:={data:=#[]}
def xR:Nat->List TO
 | 0=>[]
 | i+1=>xR i++[(1,0,ris i,rgR)]
theorem aAG(n:Nat):(xR n).length=n:=by
 induction n with
 | zero=>rfl
 | succ n ih=>simp[xR,ih]
def uX(zs:List Int)(r n:Int):Nat->Int->List TO->St2->List TO×St2
 | 0,_,l,q=>(l,q)
 | m+1,i,l,q=>if i<n then uX zs r n m (i+5+nxV zs (nxS zs q) 8) (l++[(if nxV zs q 3=0 then 2 else 1,r,ris i,rgS)]) (nxS zs (nxS zs q))else(l,q)
def aMD(zs:List Int)(r n:Int)(l:List TO)(q:St2):List TO×St2:=uX zs r n 200 (nxV zs q 9) (l++[(5,0,rgE,rgE)]++[(3,0,rgE,rgE)]) (nxS zs q)
def iZ(zs:List Int)(n:Nat)(p1:St2):Nat->List TO×St2
 | 0=>(xR n,p1)
 | j+1=>aMD zs ((j:Int)+1) n (iZ zs n p1 j).1 (iZ zs n p1 j).2
def aAI(zs:List Int)(p:St2):List TO×St2:=iZ zs (60+nxV zs p 140).toNat (nxS zs p) 2
structure DrI(base g:Nat)(a:Option Addr)(c:Nat)(zs:List Int)(w:World)(ov:Value)(l:List TO)(q:St2)(wr:World):Prop where
 own:yO.Own w.heap.size wr ov l
 src:dP base g a c zs q wr
 ae:Frm (·=g) w wr
section
variable {base g : Nat} {a : Option Addr} {c : Nat} {zs : List Int} {w : World} {ov : Value} {l : List TO} {q : St2} {wr : World}
theorem DrI.next(h:DrI base g a c zs w ov l q wr)(f:g<w.heap.size){q':St2}{wy:World}(d:dP base g a c zs q' wy)(b:Frm (·=g) wr wy):DrI base g a c zs w ov l q' wy:=
 ⟨h.own.ae b fun r i e=>by omega,d,h.ae.trans b⟩
theorem DrI.bp(h:DrI base g a c zs w ov l q wr){wy:World}(b:Bl wr wy):DrI base g a c zs w ov l q wy:=⟨h.own.below b,h.src.below b,h.ae.trans (Frm.aa b)⟩
theorem DrI.app(h:DrI base g a c zs w ov l q wr)(f:g<w.heap.size){ov':Value}{l':List TO}{wy:World}(e:yO.Own w.heap.size wy ov' l')(d:Frm (fun k=>w.heap.size<=k/\∃cs,IsC wr k cs yO.t) wr wy):DrI base g a c zs w ov' l' q wy:=by
 have j:=h.src.lo;exact⟨e,h.src.ae d (fun q=>by omega) fun b q=>by omega,((h.ae.wide (S':=fun k=>k=g\/w.heap.size<=k) fun k _ q=>.inl q).trans (d.wide fun k _ q=>.inr q.1)).wide fun k i q=>q.elim id fun q=>by omega⟩
end
theorem aAH(zs:List Int)(r n:Int):∀(m:Nat) (i:Int) (l:List TO) (q:St2),(uX zs r n m i l q).1.length<=l.length+m
 | 0,i,l,q=>by simp[uX]
 | m+1,i,l,q=>by
  unfold uX;split
  ·have:=aAH zs r n m (i+5+nxV zs (nxS zs q) 8) (l++[(if nxV zs q 3=0 then 2 else 1,r,ris i,rgS)]) (nxS zs (nxS zs q))
   simp at this;omega
  ·simp only;omega
end Go.Proofs.YtmpagpeenjddgaaGreat
namespace Go.Proofs.YtmpagpeenjddgaaGreat
open Go.RowKit Fo
theorem tO(zs:List Int)(n:Nat)(a:St2):∀j,(iZ zs n a j).1.length<=n+202*j
 | 0=>by simp[iZ,aAG]
 | j+1=>by
  have c:=tO zs n a j;have b:=aAH zs ((j:Int)+1) n 200 (nxV zs (iZ zs n a j).2 9) ((iZ zs n a j).1++[(5,0,rgE,rgE)]++[(3,0,rgE,rgE)]) (nxS zs (iZ zs n a j).2);simp only[lP,List.length_singleton]at b;show(aMD zs ((j:Int)+1) n (iZ zs n a j).1 (iZ zs n a j).2).1.length<=_
  unfold aMD;omega
theorem aCE(base g:Nat)(a:Option Addr)(c:Nat)(zs:List Int)(p:St2)(w:World)(Z:dP base g a c zs p w):
  Calls Tryz.prog 29 #[.pointer (some ⟨g,0,none⟩)] w fun e w'=>∃u,e=.returned u/\DrI base g a c zs w u (aAI zs p).1 (aAI zs p).2 w':=by
 have z:=Z.lt;have HL:Hid (yO.Own w.heap.size (w.alloc (.cells #[] 33)) (.slice (some ⟨w.heap.size,0,none⟩) 0 0) []):=Ely.Own.lit _ _ (nR _) _ rfl;have HR:Hid (aAI zs p=iZ zs (60+nxV zs p 140).toNat (nxS zs p) 2):=rfl;have hv:=bO zs p (n:=140) (by decide) (by decide);generalize aAI zs p=R at *;go_enter Tryz.func29,Tryz.ntmps29;go_wp2_with fail;refine(aZ base g a c zs p 140 (by decide) (by decide) _ (Z.below (aOY _ _))).mono ?_;rintro e w1 ⟨rfl,ez,qe⟩;obtain⟨n,Y⟩:∃n:Nat,60+nxV zs p 140=(n:Int):=⟨(60+nxV zs p 140).toNat,by omega⟩;have OW:IntKind.i64.wrap (60+nxV zs p 140)=(n:Int):=by rw[Y];exact IntWalk.i64_in _ ⟨by omega,by omega⟩
 have YS:n<=199:=by omega
 rw[Y,Int.toNat_natCast]at HR;clear Y;generalize nxV zs p 140=v at *;generalize nxS zs p=o at *;have jm:Hid (DrI base g a c zs w (.slice (some ⟨w.heap.size,0,none⟩) 0 0) [] o w1):=⟨HL.out.ae qe fun r hr q=>by omega,ez,(Frm.alloc _ _ _).trans qe⟩;clear HL Z ez qe hv;go_wp2_with fail;go_loopw [3,5] (fun E i wr=>∃k:Nat,k<=n/\i=.int .i64 k/\DrI base g a c zs w E (xR k) o wr) (fun _ i _=>n -(intOf i).toNat)
 case atStart=>exact⟨0,Nat.zero_le _,rfl,jm.out⟩
 case round=>
  obtain⟨k,hk,rfl,s⟩:=hrel;clear jm;by_cases ak:k<n
  ·have kr:(k:Int) <(n:Int):=by omega
   go_wp2_with fail
   refine(kE k (by omega) (by omega) _).mono ?_;rintro e w3 ⟨rfl,bu⟩;have G:=s.bp bu;have L:=G.own;have J:=G.ae.size;have O:(xR k).length<1000000:=by rw[aAG];omega
   have F:=toHid' G;have HA:Hid (xR (k+1)=xR k++[(1,0,ris k,rgR)]):=rfl;clear s G;go_wp2_with (first | (at_builtin;refine yO.av rfl _ _ rfl L rfl (1,0,ris k,rgR) rfl rfl O J ?_;intro v' w12 K bx N));go_roundw
   case rel=>exact⟨k+1,by omega,by go_num,F.out.app z (by rw[HA.out];exact K) N⟩
   case measure=>simp[intOf];omega
  ·have kr:¬(k:Int) <(n:Int):=by omega
   obtain rfl:k=n:=by omega
   have L9:Hid (DrI base g a c zs w u3 (xR k) o wr):=s;clear s;go_wp2_with fail;go_loopw [3,6,7,8] (fun E r _ _ wr=>∃j:Nat,j<=2/\r=.int .i64 ((j:Int)+1)/\DrI base g a c zs w E (iZ zs k o j).1 (iZ zs k o j).2 wr) (fun _ r _ _ _=>3 -(intOf r).toNat)
   case atStart=>exact⟨0,by omega,rfl,L9.out⟩
   case round=>
    obtain⟨j,hj,rfl,s⟩:=hrel;clear L9;by_cases E2:j<2
    ·have d9:((j:Int)+1)<3:=by omega
     have T:Hid (iZ zs k o (j+1)=uX zs ((j:Int)+1) k 200 (nxV zs (iZ zs k o j).2 9) ((iZ zs k o j).1++[(5,0,rgE,rgE)]++[(3,0,rgE,rgE)]) (nxS zs (iZ zs k o j).2)):=rfl;have ai:=tO zs k o j;obtain⟨W,HJ⟩:∃x,Hid (iZ zs k o (j+1)=x):=⟨_,rfl⟩;rw[HJ.out]at T;generalize (iZ zs k o j).1=l at *;generalize (iZ zs k o j).2=q at *;have L:=s.own;have J:=s.ae.size;have O:l.length<1000000:=by omega
     have F:=toHid' s;clear s;go_upto_region 11 with(at_builtin;refine yO.av rfl _ _ rfl L rfl (5,0,rgE,rgE) rfl rfl O J ?_;intro v1 w4 K bx N)
     have H:=F.out.app z K N;have Lf:=H.own;have Gw:=H.ae.size;have SW:(l++[(5,0,rgE,rgE)]).length<1000000:=by simp;omega
     have Tb:=toHid' H;clear H F K bx N L J;go_upto_region 12 with(at_builtin;refine yO.av rfl _ _ rfl Lf rfl (3,0,rgE,rgE) rfl rfl SW Gw ?_;intro v2 w5 IL NF NW)
     have oy:=Tb.out.app z IL NW;clear Tb IL NF NW Lf Gw;have Z0:=bO zs q (n:=9) (by decide) (by decide);go_wp2_with fail;refine(aZ base g a c zs q 9 (by decide) (by decide) _ oy.src).mono ?_;rintro e w6 ⟨rfl,IW,NU⟩;have Tc:=toHid' (oy.next z IW NU);clear oy IW NU;generalize nxV zs q 9=i0 at *;generalize nxS zs q=M at *;have Cs:(l++[(5,0,rgE,rgE)]++[(3,0,rgE,rgE)]).length<=2000:=by simp;omega
     generalize l++[(5,0,rgE,rgE)]++[(3,0,rgE,rgE)]=l2 at *;go_wp2_with fail;go_loopw [3,7,8] (fun E i _ wr=>∃(m:Nat) (d:Int) (h:List TO) (f:St2),i=.int .i64 d/\0<=d/\d<=300/\(k:Int)-d<m/\m<=200/\h.length+m<=2200/\Hid (W=uX zs ((j:Int)+1) k m d h f)/\DrI base g a c zs w E h f wr) (fun _ i _ _=>400 -(intOf i).toNat)
     case atStart=>exact⟨200,i0,l2,M,rfl,by omega,by omega,by omega,by omega,by omega,T,Tc.out⟩
     case round=>
      obtain⟨m,d,h,f,rfl,Fk,Ke,Zc,ol,SY,C,I⟩:=hrel;clear Tc T;by_cases t:d <(k:Int)
      ·obtain⟨m,rfl⟩:∃m',m=m'+1:=⟨m-1,by omega⟩
       have HS:Hid (W=uX zs ((j:Int)+1) k m (d+5+nxV zs (nxS zs f) 8) (h++[(if nxV zs f 3=0 then 2 else 1,(j:Int)+1,ris d,rgS)]) (nxS zs (nxS zs f))):=C.out.trans (if_pos t);clear C;have v3:=bO zs f (n:=3) (by decide) (by decide);have v8:=bO zs (nxS zs f) (n:=8) (by decide) (by decide);go_wp2_with fail;refine(kE d Fk (by omega) _).mono ?_;rintro e w7 ⟨rfl,wl⟩;have D:=I.bp wl;obtain⟨ra,b,PX,P,Cw⟩:=D.own;have Ie:=D.ae.size;have X:DoB base g a c zs w w7.heap.size ra h b f (1,(j:Int)+1,ris d,rgS) (w7.alloc (.cells #[.int .i64 1,.int .i64 ((j:Int)+1),.string (ris d),.string rgS] 33)):=
        ⟨D.src.below (aOY _ _),P.ae (S:=fun _=>False) (Frm.alloc _ _ _) fun _ _=>id,IsC.new _ _ _,D.ae.trans (Frm.alloc _ _ _),z,Ie,fun r e=>⟨Cw r e,by have:=(P.arr r e).lt;omega⟩⟩
       clear I D P;generalize ris d=key at *;go_wp2_with fail;refine(aZ base g a c zs f 3 (by decide) (by decide) _ X.src).mono ?_;rintro e w8 ⟨rfl,Ft,Lo⟩;have B:=X.next Ft Lo;generalize w7.heap.size=B0 at *;clear X Ft Lo;generalize nxV zs f 3=t3 at *;obtain⟨kd,y⟩:∃x,Hid ((if t3=0 then(2:Int)else 1)=x):=⟨_,rfl⟩;rw[y.out]at HS;go_upto_if 52 with fail
       go_cut [] (fun wx=>DoB base g a c zs w B0 ra h b (nxS zs f) (kd,(j:Int)+1,key,rgS) wx)
       case first=>
        by_cases M:t3=0
        ·obtain rfl:2=kd:=by rw[<-y.out,if_pos M]
         obtain⟨c0,_,_,_,f0,_⟩:=B.cells;have L4:=toHid' (B.put 0 (.int .i64 2) (2,(j:Int)+1,key,rgS) rfl);clear B;go_wp2;go_meet;exact L4.out
        ·obtain rfl:1=kd:=by rw[<-y.out,if_neg M]
         go_wp2
         go_meet
         exact B
       case rest=>
        have A:DoB base g a c zs w B0 ra h b (nxS zs f) (kd,(j:Int)+1,key,rgS) wc:=hcut;obtain⟨c0,c1,c2,c3,_⟩:=A.cells;have V:yO.Own w.heap.size wc (.slice (adr ra) h.length (h.length+b.length)) h:=⟨ra,b,rfl,A.row,Cw⟩;have BW:=A.ae.size;have SX:h.length<1000000:=by omega
        have Td:Hid (DrI base g a c zs w (.slice (adr ra) h.length (h.length+b.length)) h (nxS zs f) wc):=⟨V,A.src,A.ae⟩;clear A B hcut;subst PX;go_upto_region 14 with(at_builtin;refine yO.av rfl _ _ rfl V rfl (kd,(j:Int)+1,key,rgS) rfl rfl SX BW ?_;intro v3' w9 Cu NG NX)
        have U:=Td.out.app z Cu NX;clear Td Cu NG NX V BW;go_wp2_with fail;refine(aZ base g a c zs (nxS zs f) 8 (by decide) (by decide) _ U.src).mono ?_;rintro e w10 ⟨rfl,uh,DR⟩;have Pu:=toHid' (U.next z uh DR);clear U uh DR;generalize nxV zs (nxS zs f) 8=t8 at *;have ci:IntKind.i64.wrap (d+5)=d+5:=IntWalk.i64_in _ ⟨by omega,by omega⟩;have dh:IntKind.i64.wrap (d+5+t8)=d+5+t8:=IntWalk.i64_in _ ⟨by omega,by omega⟩;go_wp2;go_roundw
        case rel=>exact⟨m,d+5+t8,_,_,rfl,by omega,by omega,by omega,by omega,by simp;omega,HS,Pu.out⟩
        case measure=>simp[intOf];omega
      ·have Q:Hid (W=(h,f)):=by
        cases m with
        | zero=>exact C.out
        | succ m=>exact C.out.trans (if_neg t)
       have Vw:=toHid' I;clear I C;go_wp2;go_roundw
       case rel=>exact⟨j+1,by omega,by go_num,by rw[HJ.out,Q.out];exact Vw.out⟩
       case measure=>simp[intOf];omega
    ·have d9:¬((j:Int)+1)<3:=by omega
     obtain rfl:j=2:=by omega
     have Q:Hid (R=iZ zs k o 2):=HR.out;have Vu:=toHid' s;clear s;go_wp2;go_ret;rw[Q.out];exact⟨_,rfl,Vu.out⟩
abbrev oA:TO:=(6,0,{data:=#[97]},{data:=#[]})
def aAD:Nat->List TO->List TO
 | 0,l=>l
 | m+1,l=>if l.length<=2000 then aAD m (l++[oA])else l
def slN:Value->Nat
 | .slice _ n _=>n
 | _=>0
def slC:Value->Nat
 | .slice _ _ c=>c
 | _=>0
def dfR(zs:List Int)(p:St2):Int×List TO:=
 let l:=doR zs (tbR zs p).2 (30+(zs.length:Int) / 2)
 let k:=nxV zs l.2 30
 if 28<=k then(512-nxV zs (nxS zs l.2) 300,(aAI zs (nxS zs (nxS zs l.2))).1)
 else if k=0 then(7,l.1)else if k=1 then(513,l.1)
 else if k=2 then((tbR zs p).1,(aAD 2001 l.1).take (2000+nxV zs (nxS zs l.2) 2).toNat)else((tbR zs p).1,l.1)
theorem aEF{base:Nat}{w:World}{u:Value}{l:List TO}(h:yO.Own base w u l):l.length<=slC u:=by
 obtain⟨a,b,rfl,_⟩:=h;exact Nat.le_add_right _ _
theorem sU(base g:Nat)(a:Option Addr)(c:Nat)(zs:List Int)(p:St2)(w:World)(U:dP base g a c zs p w):
  Calls Tryz.prog 17 #[.pointer (some ⟨g,0,none⟩)] w fun e w'=>∃u,e=.returned (.tuple #[.int .i64 (dfR zs p).1,u])/\(yO.Sl w' u (dfR zs p).2/\(dfR zs p).2.length<=slC u)/\Frm (·=g) w w':=by
 have wt:=U.lt;have Zl:=U.len;have G:Hid (dfR zs p=if 28<=nxV zs (doR zs (tbR zs p).2 (30+(zs.length:Int) / 2)).2 30 then(512-nxV zs (nxS zs (doR zs (tbR zs p).2 (30+(zs.length:Int) / 2)).2) 300,(aAI zs (nxS zs (nxS zs (doR zs (tbR zs p).2 (30+(zs.length:Int) / 2)).2))).1)else if nxV zs (doR zs (tbR zs p).2 (30+(zs.length:Int) / 2)).2 30=0 then(7,(doR zs (tbR zs p).2 (30+(zs.length:Int) / 2)).1)else if nxV zs (doR zs (tbR zs p).2 (30+(zs.length:Int) / 2)).2 30=1 then(513,(doR zs (tbR zs p).2 (30+(zs.length:Int) / 2)).1)else if nxV zs (doR zs (tbR zs p).2 (30+(zs.length:Int) / 2)).2 30=2 then((tbR zs p).1,(aAD 2001 (doR zs (tbR zs p).2 (30+(zs.length:Int) / 2)).1).take (2000+nxV zs (nxS zs (doR zs (tbR zs p).2 (30+(zs.length:Int) / 2)).2) 2).toNat)else((tbR zs p).1,(doR zs (tbR zs p).2 (30+(zs.length:Int) / 2)).1)):=rfl;generalize dfR zs p=R at *;go_enter Tryz.func17,Tryz.ntmps17;go_wp2_with fail;refine(mX base g a c zs p _ U).mono ?_;rintro e w1 ⟨rfl,Q,Z⟩;generalize (tbR zs p).1=n0 at *;generalize (tbR zs p).2=Y at *;have c0:=Q.cells.1;have e1:((zs.length:Nat):Int).tdiv 2=(zs.length:Int) / 2:=Int.tdiv_eq_ediv_of_nonneg (by omega);have e2:IntKind.i64.wrap ((zs.length:Int) / 2)=(zs.length:Int) / 2:=IntWalk.i64_in _ ⟨by omega,by omega⟩;have e3:IntKind.i64.wrap (30+(zs.length:Int) / 2)=30+(zs.length:Int) / 2:=IntWalk.i64_in _ ⟨by omega,by omega⟩;go_wp2_with fail;refine(zR base g a c zs Y (30+(zs.length:Int) / 2) (by omega) (by omega) _ Q).mono ?_;rintro e w2 ⟨u,rfl,J,ku,lw⟩;generalize (doR zs Y (30+(zs.length:Int) / 2)).1=l at *;generalize (doR zs Y (30+(zs.length:Int) / 2)).2=L at *;have v30:=bO zs L (n:=30) (by decide) (by decide);clear c0 e1 e2 e3;go_wp2_with fail;refine(aZ base g a c zs L 30 (by decide) (by decide) _ ku).mono ?_;rintro e w3 ⟨rfl,A,M⟩;have y:=J.ae M (fun r hr q=>by have:=Z.size;omega);have i:Frm (·=g) w w3:=(Z.trans lw).trans M;generalize nxV zs L 30=k at *;generalize nxS zs L=j at *;clear Q ku lw M J;have C:∀(x:Int) (z:Value) (b:List TO) (wr:World),R=(x,b)->yO.Own w1.heap.size wr z b->Frm (·=g) w wr->∃u,(.returned (.tuple #[.int .i64 x,z]):Ending)=.returned (.tuple #[.int .i64 R.1,u])/\(yO.Sl wr u R.2/\R.2.length<=slC u)/\Frm (·=g) w wr:=fun x z b wr e h1 h2=>by subst e;exact⟨_,rfl,⟨h1.sl,aEF h1⟩,h2⟩
 have O:=toHid' C;clear C;by_cases r0:28<=k
 ·have f:=toHid' (G.out.trans (if_pos r0))
  have v300:=bO zs j (n:=300) (by decide) (by decide);clear G;go_wp2_with fail;refine(aZ base g a c zs j 300 (by decide) (by decide) _ A).mono ?_;rintro e w4 ⟨rfl,vd,Fi⟩;generalize nxV zs j 300=t at *;have tg:IntKind.i64.wrap (512-t)=512-t:=IntWalk.i64_in _ ⟨by omega,by omega⟩;go_wp2_with fail;refine(aCE base g a c zs (nxS zs j) _ vd).mono ?_;rintro e w5 ⟨u5,rfl,X⟩;have B:=toHid' (aI X.own ((i.trans Fi).trans X.ae));clear X A vd Fi;go_wp2;refine bodyPost_ret (v:=.tuple #[.int .i64 (512-t),u5]) (by simp[results,Tryz.results17,go_sem]) rfl ?_;rw[f.out];exact⟨_,rfl,⟨B.out.1.sl,aEF B.out.1⟩,B.out.2⟩
 ·have F:=toHid' (G.out.trans (if_neg r0))
  clear G;by_cases r1:k=0
  ·have f:=toHid' (F.out.trans (if_pos r1))
   have o:=toHid' (aI y i);clear F y i A;go_wp2;refine bodyPost_ret (v:=.tuple #[.int .i64 7,u]) (by simp[results,Tryz.results17,go_sem]) rfl ?_;exact O.out _ _ _ _ f.out o.out.1 o.out.2
  ·have D:=toHid' (F.out.trans (if_neg r1))
   clear F;by_cases r2:k=1
   ·have f:=toHid' (D.out.trans (if_pos r2))
    have o:=toHid' (aI y i);clear D y i A;go_wp2;refine bodyPost_ret (v:=.tuple #[.int .i64 513,u]) (by simp[results,Tryz.results17,go_sem]) rfl ?_;exact O.out _ _ _ _ f.out o.out.1 o.out.2
   ·have K:=toHid' (D.out.trans (if_neg r2))
    clear D;by_cases r3:k=2
    ·have f:=toHid' (K.out.trans (if_pos r3))
     have L9:Hid (DrI base g a c zs w u l j w3):=⟨y.base Z.size,A,i⟩;obtain⟨P,N⟩:∃x,Hid (aAD 2001 l=x):=⟨_,rfl⟩;rw[N.out]at f;clear K y i A;go_wp2_with fail;go_loopw [5] (fun z wr=>∃(m:Nat) (b:List TO),Hid (P=aAD m b)/\2000<b.length+m/\DrI base g a c zs w z b j wr) (fun z _=>2001-slN z)
     case atStart=>exact⟨2001,l,N.out.symm,by omega,L9.out⟩
     case round=>
      obtain⟨m,b,I,DX,s⟩:=hrel;clear L9 N;obtain⟨ra,d,PX,E,Cw⟩:=s.own;subst PX;by_cases T:b.length<=2000
      ·have YK:(b.length:Int)<=2000:=by omega
       obtain⟨m,rfl⟩:∃m',m=m'+1:=⟨m-1,by omega⟩;have HS:Hid (P=aAD m (b++[oA])):=I.out.trans (if_pos T);have J:=s.own;have ay:=s.ae.size;have Dt:b.length<1000000:=by omega
       have B:=toHid' s;clear s E;go_wp2_with (first | (at_builtin;refine yO.av rfl _ _ rfl J rfl oA rfl rfl Dt ay ?_;intro v' w12 bd bx y9));obtain⟨ra2,V,Si,_⟩:=id bd;go_roundw
       case rel=>exact⟨m,_,HS,by simp;omega,B.out.app wt bd y9⟩
       case measure=>rw[Si];simp[slN];omega
      ·have YK:¬(b.length:Int)<=2000:=by omega
       have Vx:Hid (P=b):=by
        cases m with
        | zero=>exact I.out
        | succ m=>exact I.out.trans (if_neg T)
       have v2:=bO zs j (n:=2) (by decide) (by decide);obtain⟨r,rfl⟩:∃r,ra=some r:=by
        cases ra with
        | none=>have:=(E.nil rfl).1;subst this;simp at T
        | some r=>exact⟨r,rfl⟩
       have H:=toHid' (aI (E.arr r rfl) (aI (Cw r rfl) s.ae));clear E I;simp only[adr];go_wp2_with fail;refine(aZ base g a c zs j 2 (by decide) (by decide) _ s.src).mono ?_;rintro e w5 ⟨rfl,Fs,W⟩;generalize nxV zs j 2=t at *;obtain⟨h,S⟩:∃h:Nat,2000+t=(h:Int):=⟨(2000+t).toNat,by omega⟩;have Z3:IntKind.i64.wrap (2000+t)=(h:Int):=by rw[S];exact IntWalk.i64_in _ ⟨by omega,by omega⟩
       rw[S,Int.toNat_natCast,Vx.out]at f;have av:h<=b.length+d.length:=by omega
       have Im:Hid (h<=slC (.slice (some ⟨r,0,none⟩) h (b.length+d.length))):=av;have BG:Hid (yO.Sl w5 (.slice (some ⟨r,0,none⟩) h (b.length+d.length)) (b.take h)):=by
        have ak:(b.take h).length=h:=by rw[List.length_take];omega
        refine .inr ⟨r,0,b.length+d.length,b++d,by simp[ak],H.out.1.ae W (fun q=>by have:=H.out.2.1;omega),by simp;omega,?_⟩;rw[ak,List.drop_zero,List.take_append_of_le_length (by omega)]
       have um:=toHid' (H.out.2.2.trans W);clear H s Fs W S;go_wp2;refine bodyPost_ret (v:=.tuple #[.int .i64 n0,.slice (some ⟨r,0,none⟩) h (b.length+d.length)]) (by simp[results,Tryz.results17,go_sem]) rfl ?_;rw[f.out];exact⟨_,rfl,⟨BG.out,lT (by rw[List.length_take];exact Nat.min_le_left _ _) Im.out⟩,um.out⟩
    ·have f:=toHid' (K.out.trans (if_neg r3))
     have o:=toHid' (aI y i);clear K y i A;go_wp2;refine bodyPost_ret (v:=.tuple #[.int .i64 n0,u]) (by simp[results,Tryz.results17,go_sem]) rfl ?_;exact O.out _ _ _ _ f.out o.out.1 o.out.2
def dtr(zs:List Int):Int×List TO:=dfR zs (0,bgN zs zs.length)
theorem uM(a:Option Addr)(c:Nat)(zs:List Int)(w:World)(o:Bts w (.slice a zs.length c) zs)(m:zs.length<=1048576)(q:0<zs.length->∀b off,a=some ⟨b,off,none⟩->b<w.heap.size):
  Calls Tryz.prog 5 #[.slice a zs.length c] w fun e w'=>∃u,e=.returned (.tuple #[.int .i64 (dtr zs).1,u])/\(yO.Sl w' u (dtr zs).2/\(dtr zs).2.length<=slC u)/\Bl w w':=by
 go_enter Tryz.func5,Tryz.ntmps5
 go_wp2_with fail
 refine(aFQ a c zs w o m).mono ?_;rintro e w1 ⟨rfl,f⟩;have d:=IsC.new w1 #[.slice a zs.length c,.int .i64 0,.int .u64 (bgN zs zs.length)] 51;have n:dP w1.heap.size w1.heap.size a c zs (0,bgN zs zs.length) (w1.alloc (.cells #[.slice a zs.length c,.int .i64 0,.int .u64 (bgN zs zs.length)] 51)):=
  ⟨(o.below f).below (aOY _ _),fun h b off e=>lL (q h b off e) f.size,nR _,m,Nat.zero_le _,d.cell 0,d.cell 1,d.cell 2,d.frozen 0,d.frozen 1,d.frozen 2⟩
 go_wp2_with fail
 refine(sU _ _ a c zs _ _ n).mono ?_;rintro e p ⟨u,rfl,j,l⟩;have g:Hid ((yO.Sl p u (dtr zs).2/\(dtr zs).2.length<=slC u)/\Bl w p):=⟨j,f.trans (((aOY w1 _).mono f.size).trans (l.below (lT f.size (by simp)) fun k e=>by rw[e];exact f.size))⟩;have i:Hid ((dfR zs (0,bgN zs zs.length)).1=(dtr zs).1):=rfl;rw[i.out];clear j l n d i;go_wp2;refine bodyPost_ret (v:=.tuple #[.int .i64 (dtr zs).1,u]) (by simp[results,Tryz.results5,go_sem]) rfl ?_;exact⟨_,rfl,g.out.1,g.out.2⟩
theorem rV(zs:List Int)(a:Int)(n:Nat):∀(m:Nat) (ids:Int) (l:List TO) (p:St2),(zC zs a n m ids l p).1.length=l.length+m
 | 0,_,l,_=>rfl
 | m+1,ids,l,p=>by
  unfold zC;rw[rV zs a n m];simp;omega
theorem aOR(zs:List Int)(h:zs.length<=1048576):(dtr zs).2.length<=1048576:=by
 have b:∀p,(doR zs p (30+(zs.length:Int) / 2)).1.length<=600000:=fun p=>by
  have:=bO zs p (n:=30+(zs.length:Int) / 2) (by omega) (by omega)
  unfold doR;rw[rV];simp only[List.length_nil];omega
 unfold dtr dfR;simp only;split
 ·rename_i q
  generalize (doR zs _ _).2=a;simp only;have:=bO zs (nxS zs (nxS zs a)) (n:=140) (by decide) (by decide);have:=tO zs (60+nxV zs (nxS zs (nxS zs a)) 140).toNat (nxS zs (nxS zs (nxS zs a))) 2;unfold aAI;omega
 ·split
  ·exact lT (b _) (by decide)
  ·split
   ·exact lT (b _) (by decide)
   ·split
    ·generalize (doR zs _ _).2=a
     have:=bO zs (nxS zs a) (n:=2) (by decide) (by decide)
     simp only[List.length_take];omega
    ·exact lT (b _) (by decide)
theorem aLM(zs:List Int)(h:zs.length<=1048576):0 <(dtr zs).2.length:=by
 have a:∀p,4<=(doR zs p (30+(zs.length:Int) / 2)).1.length:=fun p=>by
  have:=bO zs p (n:=30+(zs.length:Int) / 2) (by omega) (by omega)
  unfold doR;rw[rV];simp only[List.length_nil];omega
 have d:∀(m:Nat) (l:List TO),4<=l.length->4<=(aAD m l).length:=by
  intro m;induction m with
  | zero=>intro l q;exact q
  | succ m ih=>intro l q;unfold aAD;split;exact ih _ (by simp;omega);exact q
 have c:∀(r n:Int) (m:Nat) (i:Int) (l:List TO) (q:St2),l.length<=(uX zs r n m i l q).1.length:=by
  intro r n m;induction m with
  | zero=>intro i l q;exact nR _
  | succ m ih=>intro i l q;unfold uX;split;exact lT (by simp) (ih _ _ _);exact nR _
 unfold dtr dfR;simp only;split
 ·generalize (doR zs _ _).2=b
  unfold aAI iZ aMD;exact lL (by simp) (c _ _ _ _ _ _)
 ·split
  ·exact lL (by decide) (a _)
  ·split
   ·exact lL (by decide) (a _)
   ·split
    ·have e:=d 2001 _ (a (tbR zs (0,bgN zs zs.length)).2)
     generalize (doR zs _ _).2=b;have:=bO zs (nxS zs b) (n:=2) (by decide) (by decide);simp only[List.length_take];omega
    ·exact lL (by decide) (a _)
