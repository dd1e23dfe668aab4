package desc_test

import (
	"math/rand"
	"strings"
	"testing"

	"strongbox/api"
	"strongbox/desc"
	"strongbox/hdkey"
)

// known returns descriptors that others published, with their checksums, each behind its form.
func known() [][2]string {
	return [][2]string{
		{"pkh", "pkh(02c6047f9441ed7d6d3045406e95c07cd85c778e4b8cef3ca7abac09b95c709ee5)#8fhd9pwu"},
		{"wpkh", "wpkh(02f9308a019258c31049344f85f89d5229b531c845836f99b08601f113bce036f9)#8zl0zxma"},
		{"sh-wpkh", "sh(wpkh(03fff97bd5755eeea420453a14355235d382f6472f8568a18b2f057a1460297556))#qkrrc7je"},
		{"multi", "multi(1,022f8bde4d1a07209355b4a7250a5c5128e88b84bddc619ab7cba8d569b240efe4,025cbdf0646e5db4eaa398f365f2ea7a0e3d419b7e0330e39ce92bddedcac4f9bc)#hzhjw406"},
		{"sh-multi", "sh(multi(2,022f01e5e15cca351daff3843fb70f3c2f0a1bdd05e5af888a67784ef3e10a2a01,03acd484e2f0c7f65309ad178a9f559abde09796974c57e714c35f110dfc27ccbe))#y9zthqta"},
		{"sh-sortedmulti", "sh(sortedmulti(2,03acd484e2f0c7f65309ad178a9f559abde09796974c57e714c35f110dfc27ccbe,022f01e5e15cca351daff3843fb70f3c2f0a1bdd05e5af888a67784ef3e10a2a01))#qwx6n9lh"},
		{"wsh-multi", "wsh(multi(2,03a0434d9e47f3c86235477c7b1ae6ae5d3442d49b1943c2b752a68e2a47e247c7,03774ae7f858a9411e5ef4246b70c65aac5649980be5c17891bbec17895da008cb,03d01115d548e7561b15c38f004d734633687cf4419620095bc5b0f47070afe85a))#en3tu306"},
		{"sh-wsh-multi", "sh(wsh(multi(1,03f28773c2d975288bc7d1d205c3748651b075fbc6610e58cddeeddf8f19405aa8,03499fdf9e895e719cfd64e67f07d38e3226aa7b63678949e6e49b241a60e823e4,02d7924d4f7d43ea965a465ae3095ff41131e5946f3c85f79e44adbcf8e27e080e)))#ks05yr6p"},
	}
}

func TestP20_1Known(t *testing.T) {
	for _, c := range known() {
		front, _, _ := strings.Cut(c[1], "#")
		for _, s := range []string{c[1], front} {
			d := mustParse(t, s)
			if d.Text() != c[1] || d.Form() != c[0] || d.Ranged() {
				t.Errorf("%s: %s, %s, Ranged %t", s, d.Text(), d.Form(), d.Ranged())
			}
		}
	}
}

// TestP20_1ThereAndBack has all forms with keys of all kinds.
func TestP20_1ThereAndBack(t *testing.T) {
	for _, form := range forms() {
		for _, plain := range some(form) {
			for _, s := range []string{plain.text(), summed(plain.text()), plain.written()} {
				expectPlain(t, s, plain)
			}
		}
	}
}

// TestP20_1Marks: a step from Hard on is written in one way, however it is read; its checksum is that of what was read.
func TestP20_1Marks(t *testing.T) {
	root := masterOf(3)
	want := "wpkh(" + root.Text() + "/0'/2147483647'/5/2147483647/0/*')"
	for _, mark := range []string{"'", "h", "H"} {
		s := strings.ReplaceAll(want, "'", mark)
		for _, one := range []string{s, summed(s)} {
			if d := mustParse(t, one); d.Text() != summed(want) || !d.Ranged() {
				t.Errorf("%s: %s", one, d.Text())
			}
		}
	}
	mixed := "wpkh(" + root.Text() + "/0H/2147483647h/5/2147483647/0/*H)"
	if d := mustParse(t, mixed); d.Text() != summed(want) {
		t.Errorf("%s: %s", mixed, d.Text())
	}
	_, sum, _ := strings.Cut(summed(want), "#")
	expectErr(t, mixed+"#"+sum, api.ErrSum)
}

// TestP20_1Forms has what is similar to a form.
func TestP20_1Forms(t *testing.T) {
	k := pubOf(2)
	for _, s := range []string{
		"", "(", ")", "()", ",", "1", k, "(" + k + ")", "m", "#", "pkh", "pkh()", "pkh(", "pkh)", "wpkh()", "sh()", "wsh()", "sh(wpkh())", "multi()", "sh(wsh())",
		"pk(" + k + ")", "addr(" + k + ")", "raw(" + k + ")", "tr(" + k + ")", "combo(" + k + ")", "PKH(" + k + ")", "Pkh(" + k + ")", "pkhh(" + k + ")", "kh(" + k + ")", "ppkh(" + k + ")",
		"sh(" + k + ")", "wsh(" + k + ")", "sh(pkh(" + k + "))", "wsh(pkh(" + k + "))", "wsh(wpkh(" + k + "))", "sh(wsh(wpkh(" + k + ")))", "sh(wsh(pkh(" + k + ")))", "sh(sh(wpkh(" + k + ")))",
		"sh-wpkh(" + k + ")", "sh-wpkh(" + k + "))", "sh(wpkh(" + k + ")", "sh(wpkh(" + k, "shwpkh(" + k + ")", "sh wpkh(" + k + ")", "sh,wpkh(" + k + "))",
		"pkh(" + k, "pkh" + k + ")", "pkh(" + k + "))", "pkh((" + k + "))", "pkh((" + k + ")", "(pkh(" + k + "))", " pkh(" + k + ")", "pkh(" + k + ") ", "pkh( " + k + ")", "pkh (" + k + ")", "pkh(" + k + ",)", "pkh(," + k + ")", "pkh(" + k + "," + k + ")", "pkh(1," + k + ")", "pkh[" + k + "]", "pkh{" + k + "}", "pkh(" + k + ")\n", "pkh(" + k + ")x", "xpkh(" + k + ")",
		"pkh(" + k + ")pkh(" + k + ")", "pkh(" + k + "),pkh(" + k + ")", "pkh(pkh(" + k + "))", "wpkh(sh(" + k + "))", "multi(1,pkh(" + k + "))",
		"sh(multi(1," + k + ")", "sh(multi(1," + k + ")))", "sh(wsh(multi(1," + k + "))", "wsh(sh(multi(1," + k + ")))", "sh(sh(multi(1," + k + ")))", "wsh(wsh(multi(1," + k + ")))", "sh(wsh(sh(multi(1," + k + "))))", "multi(multi(1," + k + "))", "sh(multi(1," + k + ")))",
		"multi_a(1," + k + ")", "sorted(1," + k + ")", "sortedsortedmulti(1," + k + ")", "multisorted(1," + k + ")", "sorted multi(1," + k + ")", "sortedMulti(1," + k + ")", "sh(sorted(multi(1," + k + ")))", "sorted(multi(1," + k + "))", "sortedpkh(" + k + ")", "sortedsh(multi(1," + k + "))", "sh(sortedwsh(multi(1," + k + ")))", "multi-(1," + k + ")", "sh-multi(1," + k + ")", "sh-multi(1," + k + "))",
		"sh(multi(1," + k + "),wpkh(" + k + "))", "pkh(\u0430" + k[1:] + ")", "pkh(" + k + ")\x00", "\x00", "\xff\xfe", "pkh(" + k + "\xff)",
	} {
		if strings.HasPrefix(s, "#") {
			expectErr(t, s, api.ErrSum)
			continue
		}
		expectNone(t, s)
	}
	for i := range "sh(wsh(multi(1," + k + ")))" {
		expectNone(t, ("sh(wsh(multi(1," + k + ")))")[:i])
	}
}

// TestP20_1Alone has what is similar to a public key as digits.
func TestP20_1Alone(t *testing.T) {
	const k = "02c6047f9441ed7d6d3045406e95c07cd85c778e4b8cef3ca7abac09b95c709ee5"
	other := "03" + k[2:]
	for _, s := range []string{k, other} {
		mustParse(t, "pkh("+s+")")
	}
	far := strings.Repeat("f", 64)
	for _, s := range []string{
		"", strings.ToUpper(k), strings.Replace(k, "c", "C", 1), k[:65], k[1:], k[:64], k + "0", k + "00", "0" + k, k + " ", "0x" + k, k[:65] + "g", k[:10] + " " + k[11:],
		"00" + k[2:], "01" + k[2:], "04" + k[2:], "05" + k[2:], "12" + k[2:], k[2:], "02" + far, "03" + far, "00", strings.Repeat("0", 66),
		"02fffffffffffffffffffffffffffffffffffffffffffffffffffffffefffffc2f", "02" + strings.Repeat("0", 64), "02" + strings.Repeat("0", 63) + "5",
		"04" + k[2:] + "1ae168fea63dc339a3c58419466ceaeef7f632653266d0e1236431a950cfe52a",
		k + "/0", k + "/*", k + "/*'", k + "/", k + "/0/*", "/" + k, k + "'", k + "*",
	} {
		for _, form := range forms() {
			for _, m := range []string{"", "1," + k + ","} {
				if isMulti(form) == (m != "") {
					names := strings.Split(form, "-")
					expectNone(t, strings.Join(names, "(")+"("+m+s+strings.Repeat(")", len(names)))
				}
			}
		}
	}
}

// TestP20_1Tree has what is similar to a key of a tree with its steps.
func TestP20_1Tree(t *testing.T) {
	root := masterOf(4)
	private, public := root.Text(), shownOf(root).Text()
	child, _ := root.Step(5)
	for _, k := range []string{private, public, child.Text(), shownOf(child).Text()} {
		for _, good := range []string{"", "/0", "/1/2", "/*", "/0/*", "/2147483647", "/0/0/0/*"} {
			mustParse(t, "wpkh("+k+good+")")
		}
		for _, good := range []string{"/0'", "/1h/2", "/*'", "/*h", "/*H", "/0/*h", "/2147483647H", "/0/0'/0/*", "/0'/*"} {
			if k == private || k == child.Text() {
				mustParse(t, "wpkh("+k+good+")")
			} else {
				// From a public key no such step leads on.
				expectNone(t, "wpkh("+k+good+")")
			}
		}
		for _, bad := range []string{
			"/", "//", "//0", "/0/", "/0//1", "/*/", "/*/0", "/*/*", "/0/*/1", "/**", "/'", "/h", "/*''", "/*hh", "/*'h", "/*x", "/x", "/'*", "/h*", "/1*", "/*1", "*", "'", "h", "0",
			"/m", "/m/0", "/0/m", "/m'", "/M", "/M/0", "/00", "/01", "/0x1", "/+1", "/-1", "/-0", "/1.0", "/ 1", "/1 ", "/1''", "/1hh", "/1'h", "/1p", "/2147483648", "/2147483648'", "/4294967295", "/4294967296", "/99999999999999999999", "/0/2147483648/1", "\\0", "/0\\1", "/0,", "/0#", "/0(", "/0)", " /0", "/0 ", "/\u0661", "/\u2217", "/<0;1>/*",
		} {
			if s := "wpkh(" + k + bad + ")"; strings.Contains(bad, "#") {
				expectErr(t, s, api.ErrSum)
			} else {
				expectNone(t, s)
			}
		}
		for _, bad := range []string{k[1:], k[:110], k + "1", strings.ToUpper(k), strings.ToLower(k), "m", "m/" + k, "[00000000]" + k, "[00000000/1']" + k, " " + k, k[:50] + k[51:], k[:109] + "1" + k[110:], "/" + k} {
			expectNone(t, "wpkh("+bad+")")
			expectNone(t, "wpkh("+bad+"/0)")
		}
	}
	bad := hdkey.Key{Data: [33]byte{1, 2, 3}}
	expectNone(t, "wpkh("+bad.Text()+")")
	placed := root
	placed.Child = 1
	expectNone(t, "wpkh("+placed.Text()+"/0)")
}

// TestP20_1Steps: at most twenty, and an index.
func TestP20_1Steps(t *testing.T) {
	for _, root := range []hdkey.Key{masterOf(5), shownOf(masterOf(5))} {
		for n := range 24 {
			steps := make([]uint32, n)
			for i := range steps {
				steps[i] = uint32(i * i)
			}
			for _, index := range []string{"", "*"} {
				plain := plainDesc{form: "wpkh", keys: []plainKey{treeKey(root, "'", index, steps...)}}
				if n > 20 {
					expectNone(t, plain.text())
				} else {
					expectPlain(t, plain.text(), plain)
				}
			}
		}
		expectNone(t, "pkh("+root.Text()+strings.Repeat("/1", 1000)+")")
	}
}

// TestP20_1Number: how many keys there are, and how many of them must sign.
func TestP20_1Number(t *testing.T) {
	var keys []plainKey
	for n := range byte(18) {
		keys = append(keys, aloneKey(pubOf(n+1)))
	}
	for _, form := range forms() {
		if !isMulti(form) {
			continue
		}
		for n := range 19 {
			for m := range 19 {
				plain := plainDesc{form: form, m: m, keys: keys[:n]}
				switch {
				case m < 1 || m > n || n > 16:
					expectNone(t, plain.text())
				case m == 1 || m == n:
					want, _ := plain.at(0)
					expectAt(t, expectPlain(t, plain.text(), plain), 0, want, api.OK)
				default:
					expectPlain(t, plain.text(), plain)
				}
			}
		}
	}
	list := strings.Repeat(","+pubOf(3), 16)
	for _, m := range []string{"", "0", "00", "01", "010", "+1", "-1", "-0", "1.0", " 1", "1 ", "1'", "0x1", "1e0", "1_0", "one", "17", "20", "100", "256", "4294967297", "18446744073709551617", strings.Repeat("9", 400), "\u0661", "*", "m", "1,1", pubOf(3)} {
		expectNone(t, "multi("+m+list+")")
		expectNone(t, "sh(wsh(sortedmulti("+m+list+")))")
	}
	for _, s := range []string{"multi(1)", "multi(1,)", "multi(0)", "multi(,)", "multi(" + pubOf(3) + ")", "multi(" + pubOf(3) + ",1)", "multi(1,," + pubOf(3) + ")", "multi(1," + pubOf(3) + ",)", "multi(1;" + pubOf(3) + ")", "multi(1" + pubOf(3) + ")", "multi(,1" + list + ")", "multi(1," + pubOf(3) + ",x)"} {
		expectNone(t, s)
	}
}

// TestP20_1Sums has what may follow a #.
func TestP20_1Sums(t *testing.T) {
	const front, sum = "pkh(02c6047f9441ed7d6d3045406e95c07cd85c778e4b8cef3ca7abac09b95c709ee5)", "8fhd9pwu"
	for _, end := range []string{
		"", "8", "8fhd9pw", "8fhd9pwv", "8fhd9pwuu", "8fhd9pwu ", " 8fhd9pwu", "8FHD9PWU", "8fhd9pwU", "qqqqqqqq", "fhd9pwu8", "8fhd9pwu#", "#8fhd9pwu", "8fhd9pwu#8fhd9pwu", "8fhd9pwu\x00", "\xff", "########", "89f8spxm",
		strings.Repeat("8fhd9pwu", 100),
	} {
		expectErr(t, front+"#"+end, api.ErrSum)
	}
	// The checksum is told ahead of the form.
	expectErr(t, "pkh()#"+sum, api.ErrSum)
	expectErr(t, "#", api.ErrSum)
	expectErr(t, "#"+sum, api.ErrSum)
	expectErr(t, "raw(deadbeef)#89f8spxn", api.ErrSum)
	expectErr(t, "raw(deadbeef)#89f8spxm", api.ErrForm)
	expectErr(t, summed(""), api.ErrForm)
	// A # is what the checksum follows wherever it stands.
	expectErr(t, summed(front+"#"+sum), api.ErrSum)
	expectErr(t, summed(front+"#"), api.ErrSum)
	expectErr(t, front[:20]+"#"+front[20:], api.ErrSum)
	expectErr(t, front+sum, api.ErrForm)
	expectErr(t, front+"%"+sum, api.ErrForm)
	// What has no checksum has no form either.
	for _, bad := range []string{"\x00", "\n", "\x7f", "\x80", "\xff", "\u00e9", "\u2019"} {
		expectErr(t, bad+"#"+sum, api.ErrForm)
		expectErr(t, front+bad+"#"+sum, api.ErrForm)
		expectErr(t, bad+front+"#"+sum, api.ErrForm)
		expectErr(t, front[:30]+bad+front[31:]+"#"+sum, api.ErrForm)
		expectErr(t, bad+"#", api.ErrForm)
		expectErr(t, bad+"#a#b", api.ErrForm)
		expectErr(t, front+"#"+sum+bad, api.ErrSum)
	}
}

// long returns a descriptor of so many bytes.
func long(t *testing.T, size int) string {
	t.Helper()
	k := masterOf(6).Text()
	s := "sortedmulti(1" + strings.Repeat(","+k+strings.Repeat("/2147483647'", 11), 15) + "," + k
	for len(s)+1 < size {
		room := size - 1 - len(s)
		one := min(room, 11)
		if room == 12 {
			one = 10
		}
		s += "/2147483647"[:one]
	}
	if len(s)+1 != size {
		t.Fatalf("%d bytes; want %d", len(s)+1, size)
	}
	return s + ")"
}

func TestP20_1Sizes(t *testing.T) {
	for _, size := range []int{3900, 3990, 3991} {
		s := long(t, size)
		d := mustParse(t, s)
		if d.Text() != summed(s) || mustParse(t, d.Text()).Text() != d.Text() {
			t.Errorf("%d bytes: %s", size, d.Text())
		}
	}
	for _, size := range []int{3992, 3999, 4000} {
		s := long(t, size)
		// The checksum makes it too long.
		if d := mustParse(t, s); d.Text() != summed(s) {
			t.Errorf("%d bytes: %s", size, d.Text())
		}
		expectErr(t, summed(s), api.ErrSize)
	}
	expectErr(t, long(t, 4001), api.ErrSize)
	expectErr(t, long(t, 4002), api.ErrSize)
	expectErr(t, strings.Repeat("a", 4000), api.ErrForm)
	expectErr(t, strings.Repeat("a", 4001), api.ErrSize)
	expectErr(t, strings.Repeat("(", 4000), api.ErrForm)
	expectErr(t, strings.Repeat("#", 4000), api.ErrSum)
	expectErr(t, strings.Repeat("#", 4001), api.ErrSize)
	expectErr(t, strings.Repeat("\xff", 4000), api.ErrForm)
	expectErr(t, strings.Repeat("\xff", 4001), api.ErrSize)
	expectErr(t, strings.Repeat("sh(", 1000000), api.ErrSize)
	expectErr(t, "multi(1"+strings.Repeat(",", 3990)+")", api.ErrForm)
}

// TestP20_1ChangedByte: with a checksum, no byte can be another one.
func TestP20_1ChangedByte(t *testing.T) {
	list := []string{known()[0][1], known()[4][1], mustParse(t, "sh(wpkh("+masterOf(1).Text()+"/1'/*'))").Text()}
	for _, s := range list {
		mustParse(t, s)
		for i := range len(s) {
			for b := range 256 {
				if byte(b) == s[i] {
					continue
				}
				changed := s[:i] + string([]byte{byte(b)}) + s[i+1:]
				d, err := desc.Parse(changed)
				if d != nil || err != api.ErrSum && err != api.ErrForm {
					t.Errorf("Parse(%q) = %v, error %d", changed, d, err)
				}
				printable := 32 <= b && b < 127
				if printable && s[i] != '#' && err != api.ErrSum {
					t.Errorf("Parse(%q): error %d; want that of the checksum", changed, err)
				}
			}
		}
	}
}

// TestP20_1LostByte: nor can two neighbours be exchanged, or a byte be missing.
func TestP20_1LostByte(t *testing.T) {
	s := mustParse(t, "sh(wpkh("+masterOf(1).Text()+"/1'/*'))").Text()
	for i := range len(s) - 1 {
		lost := s[:i] + s[i+1:]
		if d, err := desc.Parse(lost); d != nil || err == api.OK {
			t.Errorf("Parse(%q) = %v, error %d", lost, d, err)
		}
		turned := s[:i] + s[i+1:i+2] + s[i:i+1] + s[i+2:]
		if d, err := desc.Parse(turned); turned != s && (d != nil || err == api.OK) {
			t.Errorf("Parse(%q) = %v, error %d", turned, d, err)
		}
	}
}

// mangled returns a text that is similar to another one.
func mangled(r *rand.Rand, s string, parts []string) string {
	for range 1 + r.Intn(3) {
		i := r.Intn(len(s) + 1)
		end := min(i+r.Intn(12), len(s))
		switch r.Intn(4) {
		case 0:
			s = s[:i] + s[end:]
		case 1:
			s = s[:i] + parts[r.Intn(len(parts))] + s[i:]
		case 2:
			s = s[:i] + parts[r.Intn(len(parts))] + s[end:]
		default:
			s = s[:i] + s[i:end] + s[i:]
		}
	}
	return s
}

// TestP20_1Random: whatever is parsed is what Text tells, apart from marks and the checksum.
func TestP20_1Random(t *testing.T) {
	r := rand.New(rand.NewSource(201))
	parts := []string{"(", ")", ",", "/", "*", "'", "h", "H", "#", "0", "1", "16", "sh(", "wsh(", "multi(", "sorted", "wpkh(", "/0", "/0'", "/*", pubOf(3), masterOf(1).Text(), "," + pubOf(4), "\xff"}
	var texts []string
	for _, form := range forms() {
		for _, plain := range some(form) {
			texts = append(texts, plain.text())
		}
	}
	read := 0
	marks := strings.NewReplacer("h", "'", "H", "'")
	for range 10000 {
		s := mangled(r, texts[r.Intn(len(texts))], parts)
		d, err := desc.Parse(s)
		if (d == nil) != (err != api.OK) || err != api.OK && err != api.ErrForm && err != api.ErrSum && err != api.ErrSize {
			t.Fatalf("Parse(%q) = %v, error %d", s, d, err)
		}
		if d == nil {
			continue
		}
		read++
		front, _, _ := strings.Cut(s, "#")
		written, _, _ := strings.Cut(d.Text(), "#")
		if d.Text() != summed(written) || marks.Replace(front) != marks.Replace(written) || mustParse(t, d.Text()).Text() != d.Text() {
			t.Errorf("%s: %s", s, d.Text())
		}
	}
	if read < 150 {
		t.Errorf("only %d were descriptors", read)
	}
}
