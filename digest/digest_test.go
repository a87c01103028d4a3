package digest

import (
	"crypto/sha3"
	"encoding/hex"
	"strings"
	"testing"

	"archivum/api"
)

// pattern returns n bytes in which no two blocks of 8 bytes nearby are equal.
func pattern(n int) string {
	b := make([]byte, n)
	x := uint32(n)*2654435761 + 1
	for i := range b {
		x = x*1664525 + 1013904223
		b[i] = byte(x >> 24)
	}
	return string(b)
}

func reference(data string) string {
	d := sha3.Sum256([]byte(data))
	return string(d[:])
}

func hexOf(t *testing.T, d string) string {
	t.Helper()
	s, e := Hex(d)
	if e != api.OK {
		t.Fatal(e)
	}
	return s
}

// P1.1: known states behind one and two permutations of the state of words 0.
func TestPermuteKnown(t *testing.T) {
	once := [25]uint64{
		0xF1258F7940E1DDE7, 0x84D5CCF933C0478A, 0xD598261EA65AA9EE, 0xBD1547306F80494D, 0x8B284E056253D057,
		0xFF97A42D7F8E6FD4, 0x90FEE5A0A44647C4, 0x8C5BDA0CD6192E76, 0xAD30A6F71B19059C, 0x30935AB7D08FFC64,
		0xEB5AA93F2317D635, 0xA9A6E6260D712103, 0x81A57C16DBCF555F, 0x43B831CD0347C826, 0x01F22F1A11A5569F,
		0x05E5635A21D9AE61, 0x64BEFEF28CC970F2, 0x613670957BC46611, 0xB87C5A554FD00ECB, 0x8C3EE88A1CCF32C8,
		0x940C7922AE3A2614, 0x1841F924A2C509E4, 0x16F53526E70465C2, 0x75F644E97F30A13B, 0xEAF1FF7B5CECA249,
	}
	twice := [25]uint64{
		0x2D5C954DF96ECB3C, 0x6A332CD07057B56D, 0x093D8D1270D76B6C, 0x8A20D9B25569D094, 0x4F9C4F99E5E7F156,
		0xF957B9A2DA65FB38, 0x85773DAE1275AF0D, 0xFAF4F247C3D810F7, 0x1F1B9EE6F79A8759, 0xE4FECC0FEE98B425,
		0x68CE61B6B9CE68A1, 0xDEEA66C4BA8F974F, 0x33C43D836EAFB1F5, 0xE00654042719DBD9, 0x7CF8A9F009831265,
		0xFD5449A6BF174743, 0x97DDAD33D8994B40, 0x48EAD5FC5D0BE774, 0xE3B8C8EE55B7B03C, 0x91A0226E649E42E9,
		0x900E3129E7BADD7B, 0x202A9EC5FAA3CCE8, 0x5B3402464E1C3DB6, 0x609F4E62A44C1059, 0x20D06CD26A8FBF5C,
	}
	zero := [25]uint64{}
	if got := Permute(zero); got != once {
		t.Errorf("once: %x", got)
	}
	if got := Permute(once); got != twice {
		t.Errorf("twice: %x", got)
	}
	if zero != [25]uint64{} {
		t.Error("the argument has changed")
	}
}

// P1.4: states that differ in one or two bits are permuted to different ones.
func TestPermuteDifferent(t *testing.T) {
	seen := map[[25]uint64]int{Permute([25]uint64{}): -1}
	check := func(s [25]uint64, i int) {
		p := Permute(s)
		if j, ok := seen[p]; ok {
			t.Errorf("%d and %d are permuted to the same state", i, j)
		}
		seen[p] = i
	}
	for i := range 1600 {
		var s [25]uint64
		s[i/64] ^= 1 << (i % 64)
		check(s, i)
		s[(i/64+5)%25] ^= 1 << (i % 64)
		check(s, 1600+i)
	}
}

// P1.1: known digests, among them lengths on both sides of a block.
func TestSumKnown(t *testing.T) {
	for i, x := range []struct{ data, want string }{
		{"", "a7ffc6f8bf1ed76651c14756a061d662f580ff4de43b49fa82d80a4b80f8434a"},
		{"abc", "3a985da74fe225b2045c172d6bd390bd855f086e3e9d525b46bfe24511431532"},
		{"abcdbcdecdefdefgefghfghighijhijkijkljklmklmnlmnomnopnopq", "41c0dba2a9d6240849100376a8235e2c82e1b9998a999e21db32dd97496d3376"},
		{strings.Repeat("\xa3", 200), "79f38adec5c20307a98ef76e8324afbfd46cfd81b22e3973c65fa1bd9de31787"},
		{strings.Repeat("a", 1000000), "5c8875ae474a3634ba4fd55ec85bffd661f32aca75c6d699d0cdcb6c115891c1"},
	} {
		if got := hexOf(t, Sum(x.data)); got != x.want {
			t.Error(i, got)
		}
	}
}

func TestSumAllLengths(t *testing.T) {
	for n := range 3*136 + 2 {
		data := pattern(n)
		if got := Sum(data); got != reference(data) {
			t.Errorf("%d bytes: %x", n, got)
		}
	}
}

// P1.2 and P1.4: how a string is divided does not matter.
func TestHashDivided(t *testing.T) {
	data := pattern(300)
	want := reference(data)
	for i := 0; i <= len(data); i++ {
		h := New()
		if n := h.Write(data[:i], "", data[i:]); n != len(data) || h.Sum() != want {
			t.Error("parts", i, n)
		}
		h = New()
		if n := h.Write(data[:i]); n != i {
			t.Error("first call", i, n)
		}
		if n := h.Write(data[i:]); n != len(data) || h.Sum() != want {
			t.Error("calls", i, n)
		}
	}
	for step := 1; step <= 200; step++ {
		h := New()
		for i := 0; i < len(data); i += step {
			h.Write(data[i:min(i+step, len(data))])
		}
		if h.Sum() != want {
			t.Error("steps of", step)
		}
	}
}

// P1.2: a new hash has taken in nothing, and nothing can be written.
func TestHashEmpty(t *testing.T) {
	h := New()
	if h.Sum() != reference("") {
		t.Error("new")
	}
	if n := h.Write(); n != 0 || h.Sum() != reference("") {
		t.Error("no parts", n)
	}
	if n := h.Write("", "", ""); n != 0 || h.Sum() != reference("") {
		t.Error("empty parts", n)
	}
	h.Write("x")
	if New().Sum() != reference("") {
		t.Error("hashes share something")
	}
}

// P1.2: more can be written behind a sum, at each place of a block.
func TestHashSumGoesOn(t *testing.T) {
	data := pattern(290)
	h := New()
	for i := range len(data) {
		if h.Sum() != reference(data[:i]) || h.Sum() != reference(data[:i]) {
			t.Fatal("sum behind", i)
		}
		if n := h.Write(data[i : i+1]); n != i+1 {
			t.Fatal(i, n)
		}
	}
}

// P1.2: a clone and what it was made from go separate ways.
func TestHashClone(t *testing.T) {
	data := pattern(280)
	for _, i := range []int{0, 1, 135, 136, 137, 272, 280} {
		h := New()
		h.Write(data[:i])
		c := h.Clone()
		if c.Sum() != reference(data[:i]) {
			t.Error("clone", i)
		}
		if n := h.Write(data); n != i+len(data) {
			t.Error(i, n)
		}
		if c.Sum() != reference(data[:i]) {
			t.Error("clone after a write to the hash", i)
		}
		if n := c.Write("abc"); n != i+3 || c.Sum() != reference(data[:i]+"abc") {
			t.Error("write to the clone", i, n)
		}
		if h.Sum() != reference(data[:i]+data) {
			t.Error("hash after a write to the clone", i)
		}
	}
}

// P1.3: every byte has its two digits, and is read again.
func TestHexAndParse(t *testing.T) {
	for i := range 256 {
		b := make([]byte, api.DigestSize)
		for j := range b {
			b[j] = byte(i + j)
		}
		text, e := Hex(string(b))
		if e != api.OK || text != hex.EncodeToString(b) {
			t.Error(i, text, e)
		}
		if d, e := Parse(text); e != api.OK || d != string(b) {
			t.Errorf("%d %x %v", i, d, e)
		}
	}
}

func TestHexErrors(t *testing.T) {
	for _, n := range []int{0, 1, 16, 31, 33, 64} {
		if s, e := Hex(strings.Repeat("x", n)); s != "" || e != api.ErrArg {
			t.Error(n, s, e)
		}
	}
}

func TestParseErrors(t *testing.T) {
	good := strings.Repeat("0f", 32)
	if _, e := Parse(good); e != api.OK {
		t.Fatal(e)
	}
	for i, s := range []string{"", "0f", good[:62], good[:63], good + "0", good + "0f", " " + good, "0x" + good[:62]} {
		if d, e := Parse(s); d != "" || e != api.ErrSyntax {
			t.Errorf("%d %q %v", i, d, e)
		}
	}
	valid := "0123456789abcdef"
	for c := range 256 {
		if strings.IndexByte(valid, byte(c)) >= 0 {
			continue
		}
		for _, at := range []int{0, 1, 31, 63} {
			s := good[:at] + string([]byte{byte(c)}) + good[at+1:]
			if d, e := Parse(s); d != "" || e != api.ErrSyntax {
				t.Errorf("%d %d %q %v", c, at, d, e)
			}
		}
	}
}

func BenchmarkSum(b *testing.B) {
	data := pattern(1 << 16)
	b.SetBytes(int64(len(data)))
	for range b.N {
		Sum(data)
	}
}
