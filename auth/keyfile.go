package auth

import (
	"iter"
	"strconv"
	"strings"

	"foliot/api"
)

const (
	shaName  = "SHA256"
	cmacName = "AES128CMAC"
	digits   = "0123456789abcdef"
)

func Parse(s string) ([]api.Key, api.Errno) {
	if len(s) > api.MaxConf {
		return nil, api.ErrLong
	}
	var keys []api.Key
	for line := range lines(s) {
		words := strings.FieldsFunc(line, isGap)
		if len(words) == 0 {
			continue
		}
		k, err := readKey(words)
		switch {
		case err != api.OK:
			return nil, err
		case hasID(keys, k.ID):
			return nil, api.ErrTwice
		case len(keys) == api.MaxKeys:
			return nil, api.ErrMany
		}
		keys = append(keys, k)
	}
	return keys, api.OK
}

// lines are the file's lines without their remarks.
func lines(s string) iter.Seq[string] {
	return func(yield func(string) bool) {
		rest, more := s, true
		for more {
			var line string
			line, rest, more = strings.Cut(rest, "\n")
			said, _, _ := strings.Cut(line, "#")
			if !yield(said) {
				return
			}
		}
	}
}

func isGap(r rune) bool { return r == ' ' || r == '\t' }

func readKey(words []string) (api.Key, api.Errno) {
	if len(words) != 3 {
		return api.Key{}, api.ErrText
	}
	id, isID := readID(words[0])
	kind, isKind := readKind(words[1])
	secret, isSecret := readBytes(words[2])
	if !isID || !isKind || !isSecret {
		return api.Key{}, api.ErrText
	}
	k := api.Key{ID: id, Kind: kind, Bytes: secret}
	return k, CheckKey(k)
}

func readID(word string) (int, bool) {
	id := 0
	for i := range len(word) {
		digit := strings.IndexByte(digits[:10], word[i])
		id = id*10 + digit
		// A first 0 leaves id at 0; what is too great ends the loop before it grows further.
		if digit < 0 || id == 0 || id > maxID {
			return 0, false
		}
	}
	return id, true
}

func readKind(word string) (int, bool) {
	switch word {
	case shaName:
		return api.KeySHA, true
	case cmacName:
		return api.KeyCMAC, true
	}
	return 0, false
}

func readBytes(word string) ([]byte, bool) {
	if len(word)%2 != 0 {
		return nil, false
	}
	var made []byte
	for i := 0; i < len(word); i += 2 {
		high, low := strings.IndexByte(digits, word[i]), strings.IndexByte(digits, word[i+1])
		if high < 0 || low < 0 {
			return nil, false
		}
		made = append(made, byte(high<<4|low))
	}
	return made, true
}

func Print(l []api.Key) (string, api.Errno) {
	if err := checkKeys(l); err != api.OK {
		return "", err
	}
	var made []byte
	for _, k := range l {
		made = appendKey(made, k)
	}
	return string(made), api.OK
}

func appendKey(made []byte, k api.Key) []byte {
	name := shaName
	if k.Kind == api.KeyCMAC {
		name = cmacName
	}
	made = strconv.AppendInt(made, int64(k.ID), 10)
	made = append(made, " "+name+" "...)
	for _, b := range k.Bytes {
		made = append(made, digits[b>>4], digits[b&15])
	}
	return append(made, '\n')
}
