// Package keys tells by what signatures are verified, and lays that into texts.
package keys

import (
	"signet/api"
	"signet/digest"
	"signet/sets"
	"signet/trees"
)

// tagId keeps apart what is digested for an id from what values are made of.
const tagId = 7

// setLen is how many bytes of a key tell its set.
const setLen = 5

// Key is what everybody may know: nothing in it helps to sign.
type Key struct {
	Set    api.Set
	Root   string // of the one tree of the top layer
	Public string
}

// Of makes the key of a set and of seeds.
func Of(c api.Set, seeds api.Seeds) (Key, api.Errno) {
	top, e := trees.New(c, seeds, api.Place{Layer: c.Layers - 1})
	if e != api.OK {
		return Key{}, e
	}
	return Key{Set: c, Root: top.Root(), Public: seeds.Public}, api.OK
}

// In reads the key that stands in a text.
func In(text string) (Key, api.Errno) {
	if len(text) < setLen {
		return Key{}, api.ErrKey
	}
	c := setIn(text)
	z, e := sets.Measure(c)
	if e != api.OK || len(text) != z.Key {
		return Key{}, api.ErrKey
	}
	publicAt := setLen + c.Bytes
	return Key{Set: c, Root: text[setLen:publicAt], Public: text[publicAt:]}, api.OK
}

func setIn(text string) api.Set {
	return api.Set{
		Kind:   int(text[0]),
		Bytes:  int(text[1]),
		Wide:   int(text[2]),
		Tall:   int(text[3]),
		Layers: int(text[4]),
	}
}

// Text lays the key into a text.
func (k Key) Text() string {
	c := k.Set
	return one(c.Kind) + one(c.Bytes) + one(c.Wide) + one(c.Tall) + one(c.Layers) + k.Root + k.Public
}

// Id stands for the key in records, where the key itself has no room. No key is too long to be digested, so it cannot be refused.
func (k Key) Id() string {
	id, _ := digest.Of(k.Set.Kind, api.IdLen, one(tagId)+k.Text())
	return id
}

func one(v int) string {
	return digest.Number(v, 1)
}
