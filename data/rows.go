package data

import "isogloss/api"

// aliases are those of the image, in its order.
func aliases() []api.Alias {
	return []api.Alias{
		{Kind: api.AliasGrand, A: "18", L: "sfb"},
		{Kind: api.AliasGrand, A: "19", L: "vgt"},
		{Kind: api.AliasGrand, A: "20", L: "sgg"},
		{Kind: api.AliasGrand, A: "03", L: "ami"},
		{Kind: api.AliasGrand, A: "08", L: "tlh"},
		{Kind: api.AliasGrand, A: "09", L: "lb"},
		{Kind: api.AliasGrand, A: "11", L: "nv"},
		{Kind: api.AliasGrand, A: "12", L: "pwn"},
		{Kind: api.AliasGrand, A: "13", L: "tao"},
		{Kind: api.AliasGrand, A: "14", L: "tay"},
		{Kind: api.AliasGrand, A: "15", L: "tsu"},
		{Kind: api.AliasGrand, A: "16", L: "nb"},
		{Kind: api.AliasGrand, A: "17", L: "nn"},
		{Kind: api.AliasGrand, A: "00", L: "jbo"},
		{Kind: api.AliasGrand, A: "22", L: "hak"},
		{Kind: api.AliasGrand, A: "24", L: "nan"},
		{Kind: api.AliasGrand, A: "25", L: "hsn"},
		{Kind: api.AliasGrand, A: "07", L: "hak"},
		{Kind: api.AliasGrand, A: "04", L: "bnn"},
		{Kind: api.AliasPair, A: "sgn", B: "br", L: "bzs"},
		{Kind: api.AliasPair, A: "sgn", B: "us", L: "ase"},
		{Kind: api.AliasPair, A: "sgn", B: "gb", L: "bfi"},
		{Kind: api.AliasPair, A: "sgn", B: "de", L: "gsg"},
		{Kind: api.AliasLang, A: "iw", L: "he"},
		{Kind: api.AliasLang, A: "in", L: "id"},
		{Kind: api.AliasLang, A: "ji", L: "yi"},
		{Kind: api.AliasLang, A: "mo", L: "ro"},
		{Kind: api.AliasLang, A: "no", L: "nb"},
		{Kind: api.AliasLang, A: "tl", L: "fil"},
		{Kind: api.AliasLang, A: "sh", L: "sr", S: "latn"},
		{Kind: api.AliasLang, A: "cmn", L: "zh"},
		{Kind: api.AliasLang, A: "cnr", L: "sr", R: "me"},
		{Kind: api.AliasLang, A: "eng", L: "en"},
		{Kind: api.AliasLang, A: "deu", L: "de"},
		{Kind: api.AliasLang, A: "fra", L: "fr"},
		{Kind: api.AliasScript, A: "qaai", S: "zinh"},
		{Kind: api.AliasRegion, A: "dd", R: "de"},
		{Kind: api.AliasRegion, A: "su", R: "ru"},
		{Kind: api.AliasRegion, A: "bu", R: "mm"},
		{Kind: api.AliasRegion, A: "fx", R: "fr"},
		{Kind: api.AliasRegion, A: "840", R: "us"},
		{Kind: api.AliasRegion, A: "276", R: "de"},
		{Kind: api.AliasRegion, A: "826", R: "gb"},
		{Kind: api.AliasRegion, A: "156", R: "cn"},
		{Kind: api.AliasRegion, A: "tp", R: "tl"},
		{Kind: api.AliasRegion, A: "zr", R: "cd"},
		{Kind: api.AliasRegion, A: "yu", R: "rs"},
		{Kind: api.AliasRegion, A: "cs", R: "rs"},
		{Kind: api.AliasVariant, A: "heploc", L: "alalc97"},
		{Kind: api.AliasVariant, A: "polytoni", L: "polyton"},
		{Kind: api.AliasType, A: "ca", B: "islamicc", L: "civil"},
		{Kind: api.AliasType, A: "ms", B: "imperial", L: "uksystem"},
		{Kind: api.AliasType, A: "co", B: "diction", L: "dict"},
		{Kind: api.AliasType, A: "kb", B: "yes", L: "true"},
	}
}

// likely are the likely rows of the image, in its order.
func likely() []api.Likely {
	return []api.Likely{
		{L: "en", ToL: "en", ToS: "latn", ToR: "us"},
		{L: "en", S: "shaw", ToL: "en", ToS: "shaw", ToR: "gb"},
		{L: "und", ToL: "en", ToS: "latn", ToR: "us"},
		{L: "und", R: "419", ToL: "es", ToS: "latn", ToR: "419"},
		{L: "de", ToL: "de", ToS: "latn", ToR: "de"},
		{L: "fr", ToL: "fr", ToS: "latn", ToR: "fr"},
		{L: "es", ToL: "es", ToS: "latn", ToR: "es"},
		{L: "zh", ToL: "zh", ToS: "hans", ToR: "cn"},
		{L: "zh", R: "tw", ToL: "zh", ToS: "hant", ToR: "tw"},
		{L: "zh", R: "hk", ToL: "zh", ToS: "hant", ToR: "hk"},
		{L: "zh", S: "hant", ToL: "zh", ToS: "hant", ToR: "tw"},
		{L: "und", S: "hant", ToL: "zh", ToS: "hant", ToR: "tw"},
		{L: "und", S: "hans", ToL: "zh", ToS: "hans", ToR: "cn"},
		{L: "sr", ToL: "sr", ToS: "cyrl", ToR: "rs"},
		{L: "sr", S: "latn", ToL: "sr", ToS: "latn", ToR: "rs"},
		{L: "sr", R: "me", ToL: "sr", ToS: "latn", ToR: "me"},
		{L: "und", S: "cyrl", ToL: "ru", ToS: "cyrl", ToR: "ru"},
		{L: "ru", ToL: "ru", ToS: "cyrl", ToR: "ru"},
		{L: "he", ToL: "he", ToS: "hebr", ToR: "il"},
		{L: "und", S: "hebr", ToL: "he", ToS: "hebr", ToR: "il"},
		{L: "ar", ToL: "ar", ToS: "arab", ToR: "eg"},
		{L: "und", S: "arab", ToL: "ar", ToS: "arab", ToR: "eg"},
		{L: "nb", ToL: "nb", ToS: "latn", ToR: "no"},
		{L: "nn", ToL: "nn", ToS: "latn", ToR: "no"},
		{L: "da", ToL: "da", ToS: "latn", ToR: "dk"},
		{L: "pt", ToL: "pt", ToS: "latn", ToR: "br"},
		{L: "hi", ToL: "hi", ToS: "deva", ToR: "in"},
		{L: "hi", S: "latn", ToL: "hi", ToS: "latn", ToR: "in"},
		{L: "ja", ToL: "ja", ToS: "jpan", ToR: "jp"},
		{L: "id", ToL: "id", ToS: "latn", ToR: "id"},
		{L: "fil", ToL: "fil", ToS: "latn", ToR: "ph"},
		{L: "ro", ToL: "ro", ToS: "latn", ToR: "ro"},
	}
}

// rules are those of the image, in its order.
func rules() []api.Rule {
	return []api.Rule{
		{Level: 1, Cost: 1, D: [3]string{"nb"}, S: [3]string{"no"}},
		{Level: 1, Cost: 4, D: [3]string{"nb"}, S: [3]string{"da"}},
		{Level: 1, Cost: 20, D: [3]string{"nn"}, S: [3]string{"nb"}},
		{Level: 1, Cost: 8, D: [3]string{"nn"}, S: [3]string{"da"}},
		{Level: 1, Cost: 30, OneWay: true, D: [3]string{"id"}, S: [3]string{"ms"}},
		{Level: 1, Cost: 80, D: [3]string{"*"}, S: [3]string{"*"}},
		{Level: 2, Cost: 15, OneWay: true, D: [3]string{"zh", "hans"}, S: [3]string{"zh", "hant"}},
		{Level: 2, Cost: 19, OneWay: true, D: [3]string{"zh", "hant"}, S: [3]string{"zh", "hans"}},
		{Level: 2, Cost: 20, D: [3]string{"sr", "latn"}, S: [3]string{"sr", "cyrl"}},
		{Level: 2, Cost: 50, D: [3]string{"*", "*"}, S: [3]string{"*", "*"}},
		{Level: 3, Cost: 3, D: [3]string{"en", "*", "$enus"}, S: [3]string{"en", "*", "$enus"}},
		{Level: 3, Cost: 3, D: [3]string{"en", "*", "!enus"}, S: [3]string{"en", "*", "!enus"}},
		{Level: 3, Cost: 4, D: [3]string{"es", "*", "$amer"}, S: [3]string{"es", "*", "$amer"}},
		{Level: 3, Cost: 5, D: [3]string{"es", "*", "!amer"}, S: [3]string{"es", "*", "$amer"}},
		{Level: 3, Cost: 4, D: [3]string{"*", "*", "*"}, S: [3]string{"*", "*", "*"}},
	}
}

// members are those of the sets of the image, in its order.
func members() []api.Member {
	return []api.Member{
		{Set: "amer", Region: "419"},
		{Set: "amer", Region: "ar"},
		{Set: "amer", Region: "mx"},
		{Set: "amer", Region: "us"},
		{Set: "enus", Region: "us"},
		{Set: "enus", Region: "pr"},
		{Set: "enus", Region: "gu"},
	}
}
