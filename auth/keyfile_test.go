package auth_test

import (
	"encoding/hex"
	"reflect"
	"regexp"
	"strconv"
	"strings"
	"testing"

	"foliot/api"
	"foliot/auth"
)

var lineForm = regexp.MustCompile(`^[ \t]*([1-9][0-9]*)[ \t]+(SHA256|AES128CMAC)[ \t]+((?:[0-9a-f]{2})+)[ \t]*$`)

// parsed is what P4.6 says, by the library's expressions.
func parsed(s string) ([]api.Key, api.Errno) {
	if len(s) > 4096 {
		return nil, api.ErrLong
	}
	var keys []api.Key
	seen := map[int]bool{}
	for _, line := range strings.Split(s, "\n") {
		if i := strings.Index(line, "#"); i >= 0 {
			line = line[:i]
		}
		if strings.Trim(line, " \t") == "" {
			continue
		}
		m := lineForm.FindStringSubmatch(line)
		if m == nil {
			return nil, api.ErrText
		}
		id, err := strconv.Atoi(m[1])
		if err != nil || id > 65535 {
			return nil, api.ErrText
		}
		b, _ := hex.DecodeString(m[3])
		k := api.Key{ID: id, Kind: map[string]int{"SHA256": 1, "AES128CMAC": 2}[m[2]], Bytes: b}
		switch {
		case keyFits(k) != api.OK:
			return nil, api.ErrKey
		case seen[id]:
			return nil, api.ErrTwice
		case len(keys) == 16:
			return nil, api.ErrMany
		}
		seen[id] = true
		keys = append(keys, k)
	}
	return keys, api.OK
}

func holdParse(t *testing.T, s string) {
	t.Helper()
	want, wrong := parsed(s)
	got, err := auth.Parse(s)
	if err != wrong || len(got) != len(want) || len(want) > 0 && !reflect.DeepEqual(got, want) {
		t.Errorf("Parse of %q is %v, %v, not %v, %v", s, got, err, want, wrong)
	}
}

// keyLines are count lines, each of a key of its own.
func keyLines(count int) string {
	var b strings.Builder
	for i := range count {
		b.WriteString(strconv.Itoa(100+i) + " SHA256 0" + strconv.FormatInt(int64(i%16), 16) + "\n")
	}
	return b.String()
}

// P4.6: what the keys are.
func TestParseKeys(t *testing.T) {
	sha := func(id int, b ...byte) api.Key { return api.Key{ID: id, Kind: api.KeySHA, Bytes: b} }
	for text, want := range map[string][]api.Key{
		"":                               nil,
		"\n\n\n":                         nil,
		"# 1 SHA256 00":                  nil,
		" \t#\n\t\n#":                    nil,
		"7 SHA256 00ff # x":              {sha(7, 0, 255)},
		"7 SHA256 00ff#x":                {sha(7, 0, 255)},
		"7 SHA256 00#ff\n":               {sha(7, 0)},
		"7 SHA256 00 # a # b":            {sha(7, 0)},
		"7 SHA256 0123456789abcdef":      {sha(7, 0x01, 0x23, 0x45, 0x67, 0x89, 0xab, 0xcd, 0xef)},
		"\t7\t SHA256\t\t 10 \t":         {sha(7, 16)},
		"1 SHA256 01\n\n65535 SHA256 fe": {sha(1, 1), sha(65535, 254)},
		"9 SHA256 09\n8 SHA256 08\n# 7 SHA256 07\n6 SHA256 06": {sha(9, 9), sha(8, 8), sha(6, 6)},
		"2 AES128CMAC 000102030405060708090a0b0c0d0e0f":        {{ID: 2, Kind: api.KeyCMAC, Bytes: sixteen("000102030405060708090a0b0c0d0e0f")}},
		"3 SHA256 " + strings.Repeat("a0", 32):                 {sha(3, []byte(strings.Repeat("\xa0", 32))...)},
	} {
		got, err := auth.Parse(text)
		if err != api.OK || len(got) != len(want) || len(want) > 0 && !reflect.DeepEqual(got, want) {
			t.Errorf("Parse of %q is %v, %v, not %v", text, got, err, want)
		}
		holdParse(t, text)
	}
}

// P4.6: lines that are no key's.
func TestParseWrong(t *testing.T) {
	sixteenBytes := strings.Repeat("00", 16)
	for text, want := range map[string]api.Errno{
		"7":                                    api.ErrText,
		"7 SHA256":                             api.ErrText,
		"7 SHA256 # 00":                        api.ErrText,
		"7 # SHA256 00":                        api.ErrText,
		"7 SHA256 00 00":                       api.ErrText,
		"7 SHA256 00 x":                        api.ErrText,
		"SHA256 7 00":                          api.ErrText,
		"07 SHA256 00":                         api.ErrText,
		"0 SHA256 00":                          api.ErrText,
		"00 SHA256 00":                         api.ErrText,
		"-1 SHA256 00":                         api.ErrText,
		"+1 SHA256 00":                         api.ErrText,
		"1a SHA256 00":                         api.ErrText,
		"a SHA256 00":                          api.ErrText,
		"1_0 SHA256 00":                        api.ErrText,
		"0x1 SHA256 00":                        api.ErrText,
		"1/ SHA256 00":                         api.ErrText,
		"1: SHA256 00":                         api.ErrText,
		"\u0661 SHA256 00":                     api.ErrText,
		"65536 SHA256 00":                      api.ErrText,
		"65537 SHA256 00":                      api.ErrText,
		"100000 SHA256 00":                     api.ErrText,
		"4294967297 SHA256 00":                 api.ErrText,
		"18446744073709551617 SHA256 00":       api.ErrText,
		"7 sha256 00":                          api.ErrText,
		"7 SHA25 00":                           api.ErrText,
		"7 SHA2566 00":                         api.ErrText,
		"7 SHA256, 00":                         api.ErrText,
		"7 MD5 00":                             api.ErrText,
		"7 1 00":                               api.ErrText,
		"7 AES128 " + sixteenBytes:             api.ErrText,
		"7 SHA256 0":                           api.ErrText,
		"7 SHA256 000":                         api.ErrText,
		"7 SHA256 0F":                          api.ErrText,
		"7 SHA256 F0":                          api.ErrText,
		"7 SHA256 0g":                          api.ErrText,
		"7 SHA256 g0":                          api.ErrText,
		"7 SHA256 0x00":                        api.ErrText,
		"7 SHA256 0:":                          api.ErrText,
		"7 SHA256 /0":                          api.ErrText,
		"7 SHA256 0`":                          api.ErrText,
		"7 SHA256 00\r":                        api.ErrText,
		"7 SHA256 00\r\n":                      api.ErrText,
		"\r":                                   api.ErrText,
		"\x00":                                 api.ErrText,
		"7\u00a0SHA256 00":                     api.ErrText,
		"7\vSHA256\v00":                        api.ErrText,
		"7 SHA256 0\xff":                       api.ErrText,
		"7 AES128CMAC 00":                      api.ErrKey,
		"7 AES128CMAC " + sixteenBytes[2:]:     api.ErrKey,
		"7 AES128CMAC " + sixteenBytes + "00":  api.ErrKey,
		"7 AES128CMAC " + sixteenBytes + "0":   api.ErrText,
		"7 SHA256 " + strings.Repeat("00", 33): api.ErrKey,
		"7 SHA256 " + strings.Repeat("00", 32) + "0":             api.ErrText,
		"7 SHA256 00\n7 SHA256 01":                               api.ErrTwice,
		"7 SHA256 00\n7 SHA256 00":                               api.ErrTwice,
		"7 SHA256 00\n8 SHA256 00\n7 AES128CMAC " + sixteenBytes: api.ErrTwice,
	} {
		if got, err := auth.Parse(text); err != want || len(got) > 0 {
			t.Errorf("Parse of %q is %v, %v, not %v", text, got, err, want)
		}
		holdParse(t, text)
	}
}

// P4.6: the number of bytes, of keys, and which error comes first where several would.
func TestParseOrder(t *testing.T) {
	long := func(s string, count int) string { return s + strings.Repeat("#", count-len(s)) }
	parse := func(s string) api.Errno {
		holdParse(t, s)
		_, err := auth.Parse(s)
		return err
	}
	full := keyLines(16)
	check(t, []row[api.Errno]{
		{"4096 bytes", parse(long("1 SHA256 00\n", 4096)), api.OK},
		{"4097 bytes", parse(long("1 SHA256 00\n", 4097)), api.ErrLong},
		{"4097 bytes that are none", parse(long("x\n", 4097)), api.ErrLong},
		{"4096 line feeds", parse(strings.Repeat("\n", 4096)), api.OK},
		{"4097 line feeds", parse(strings.Repeat("\n", 4097)), api.ErrLong},
		{"4096 bytes of one word", parse(strings.Repeat("1", 4096)), api.ErrText},
		{"sixteen keys", parse(full), api.OK},
		{"sixteen keys and lines without words", parse("\n" + full + "\n# 9 SHA256 00\n \n"), api.OK},
		{"a seventeenth", parse(keyLines(17)), api.ErrMany},
		{"a seventeenth that is twice", parse(full + "100 SHA256 00"), api.ErrTwice},
		{"a seventeenth that is no key", parse(full + "9 AES128CMAC 00"), api.ErrKey},
		{"a seventeenth that is no text", parse(full + "9 MD5 00"), api.ErrText},
		{"a seventeenth ahead of no text", parse(keyLines(17) + "x"), api.ErrMany},
		{"no text ahead of no key", parse("x\n7 AES128CMAC 00"), api.ErrText},
		{"no key ahead of no text", parse("7 AES128CMAC 00\nx"), api.ErrKey},
		{"twice ahead of no text", parse("7 SHA256 00\n7 SHA256 00\nx"), api.ErrTwice},
		{"no text ahead of twice", parse("7 SHA256 00\nx\n7 SHA256 00"), api.ErrText},
		{"no key, that is twice", parse("7 SHA256 00\n7 AES128CMAC 00"), api.ErrKey},
		{"no text, that is twice", parse("7 SHA256 00\n7 MD5 00"), api.ErrText},
		{"no digits, and too many of them", parse("7 SHA256 " + strings.Repeat("0g", 40)), api.ErrText},
	})
}

// P4.6: files put together of pieces that are right and of others.
func TestParseDrawn(t *testing.T) {
	pieces := []string{
		"7", "8", "9", "65535", "65536", "0", "07", " ", " ", " ", "\t", "\n", "\n", "#", "SHA256", "SHA256", "AES128CMAC",
		"00", "ff", "a", "F", "\r", "é", strings.Repeat("5a", 16), strings.Repeat("5a", 32), "1 SHA256 00\n", "2 SHA256 01\n", "3 AES128CMAC " + strings.Repeat("5a", 16) + "\n",
	}
	r := draws(4)
	right := 0
	for range 30000 {
		var b strings.Builder
		for range r.IntN(9) {
			b.WriteString(pieces[r.IntN(len(pieces))])
		}
		holdParse(t, b.String())
		if l, _ := auth.Parse(b.String()); len(l) > 0 {
			right++
		}
	}
	if right < 100 {
		t.Errorf("only %d files have keys", right)
	}
	whole := keyLines(17) + "# a remark\n7\tAES128CMAC " + strings.Repeat("c3", 16) + "\n"
	for cut := range whole {
		holdParse(t, whole[:cut])
		holdParse(t, whole[cut:])
		for _, c := range []string{" ", "\n", "#", "0", "g", ""} {
			holdParse(t, whole[:cut]+c+whole[cut+1:])
		}
	}
}

// P4.7: the lines.
func TestPrint(t *testing.T) {
	printed := func(l ...api.Key) string {
		s, err := auth.Print(l)
		if err != api.OK {
			t.Errorf("Print of %v is %v", l, err)
		}
		return s
	}
	check(t, []row[string]{
		{"Print of no keys", printed(), ""},
		{"of one", printed(api.Key{ID: 7, Kind: api.KeySHA, Bytes: []byte{0, 255}}), "7 SHA256 00ff\n"},
		{"of two", printed(api.Key{ID: 65535, Kind: api.KeySHA, Bytes: []byte{0x9a}}, api.Key{ID: 1, Kind: api.KeyCMAC, Bytes: sixteen("000102030405060708090a0b0c0d0e0f")}),
			"65535 SHA256 9a\n1 AES128CMAC 000102030405060708090a0b0c0d0e0f\n"},
	})
	keys, _ := auth.Parse(keyLines(16))
	check(t, []row[string]{{"Print of sixteen", printed(keys...), keyLines(16)}})
}

// keyLists are lists that may stand together and others, with what P4.7 says of them.
func keyLists() map[string]struct {
	keys []api.Key
	want api.Errno
} {
	many := func(count int) []api.Key {
		var l []api.Key
		for i := range count {
			l = append(l, shaKey(1+i, 1+i%32))
		}
		return l
	}
	with := func(l []api.Key, at int, k api.Key) []api.Key {
		l[at] = k
		return l
	}
	wrong := api.Key{ID: 0, Kind: api.KeySHA, Bytes: []byte{1}}
	return map[string]struct {
		keys []api.Key
		want api.Errno
	}{
		"none":                             {nil, api.OK},
		"one":                              {many(1), api.OK},
		"sixteen":                          {many(16), api.OK},
		"seventeen":                        {many(17), api.ErrMany},
		"a thousand":                       {many(1000), api.ErrMany},
		"seventeen, one of them wrong":     {with(many(17), 0, wrong), api.ErrMany},
		"seventeen, two of them the same":  {with(many(17), 1, shaKey(1, 3)), api.ErrMany},
		"the first wrong":                  {with(many(16), 0, wrong), api.ErrKey},
		"the last wrong":                   {with(many(16), 15, wrong), api.ErrKey},
		"the last twice":                   {with(many(16), 15, shaKey(1, 3)), api.ErrTwice},
		"neighbours the same":              {with(many(3), 1, cmacKey(1)), api.ErrTwice},
		"twice ahead of wrong":             {with(with(many(4), 1, cmacKey(1)), 2, wrong), api.ErrTwice},
		"wrong ahead of twice":             {with(with(many(4), 3, cmacKey(1)), 2, wrong), api.ErrKey},
		"wrong and twice":                  {with(many(4), 3, api.Key{ID: 1, Kind: api.KeyCMAC, Bytes: run(15, 0)}), api.ErrKey},
		"the ID 65536":                     {[]api.Key{shaKey(65536, 1)}, api.ErrKey},
		"no Bytes":                         {[]api.Key{shaKey(1, 0)}, api.ErrKey},
		"33 Bytes":                         {[]api.Key{shaKey(1, 33)}, api.ErrKey},
		"no kind":                          {[]api.Key{{ID: 1, Bytes: run(16, 0)}}, api.ErrKey},
		"IDs that are the same below 2^16": {[]api.Key{shaKey(1, 1), shaKey(65537, 1)}, api.ErrKey},
	}
}

// P4.7: lists that may not be.
func TestPrintWrong(t *testing.T) {
	for name, l := range keyLists() {
		if s, err := auth.Print(l.keys); err != l.want || err != api.OK && s != "" {
			t.Errorf("Print of %s is %q, %v, not %v", name, s, err, l.want)
		}
	}
}

// drawnKeys are up to sixteen keys that may stand together.
func drawnKeys(seed uint64) []api.Key {
	r := draws(seed)
	var l []api.Key
	for i, id := range r.Perm(65535)[:r.IntN(17)] {
		k := api.Key{ID: id + 1, Kind: api.KeySHA, Bytes: drawn(r, 1+r.IntN(32))}
		if i%3 == 0 {
			k.Kind, k.Bytes = api.KeyCMAC, drawn(r, 16)
		}
		l = append(l, k)
	}
	return l
}

// P4.11: what Print writes, Parse reads.
func TestPrintedIsParsed(t *testing.T) {
	greatest := []api.Key{}
	for i := range 16 {
		greatest = append(greatest, shaKey(65535-i, 32))
	}
	lists := [][]api.Key{nil, greatest}
	for seed := range uint64(60) {
		lists = append(lists, drawnKeys(seed))
	}
	for _, l := range lists {
		s, err := auth.Print(l)
		got, wrong := auth.Parse(s)
		if err != api.OK || wrong != api.OK || len(got) != len(l) || len(l) > 0 && !reflect.DeepEqual(got, l) {
			t.Errorf("Parse of Print of %v is %v, %v, %v", l, got, err, wrong)
		}
		holdParse(t, s)
	}
}

// R3: the keys that are printed stay as they are; the keys that are read share nothing.
func TestKeyFileMemory(t *testing.T) {
	room := run(64, 1)
	l := []api.Key{{ID: 1, Kind: api.KeySHA, Bytes: room[:5]}, {ID: 2, Kind: api.KeySHA, Bytes: room[5:9]}, {ID: 3}}
	if _, err := auth.Print(l[:2]); err != api.OK || !reflect.DeepEqual(room, run(64, 1)) || l[0].ID != 1 || l[2].ID != 3 {
		t.Errorf("Print changes its keys: %v, %v", err, l)
	}
	text := keyLines(5)
	got, _ := auth.Parse(text)
	again, _ := auth.Parse(text)
	for i, k := range got {
		for j := range k.Bytes[:cap(k.Bytes)] {
			k.Bytes[:cap(k.Bytes)][j] = 0xee
		}
		for j, other := range got {
			if j > i && other.Bytes[0] != byte(j) {
				t.Errorf("the key %d shares memory with the key %d", j, i)
			}
		}
	}
	if want, _ := parsed(text); !reflect.DeepEqual(again, want) {
		t.Errorf("a later answer is changed: %v", again)
	}
}
