"""Houses, books and rules as texts, a line for each folk, news or row."""

NOBODY = "-"

# Each word stands at the place of the number that it is written for.
SEXES = ("woman", "man")
BIRTHS = ("unwed", "wed")
COUNTED = ("all", "wed")


def house_text(house):
    return text_of([folk_line(folk) for folk in house])


def book_text(book):
    return text_of([news_line(news) for news in book])


def rule_text(rule):
    return text_of([row_line(row) for row in rule])


def text_of(lines):
    return "".join([line + "\n" for line in lines])


def folk_line(folk):
    day, father, mother, man, wed = folk
    return " ".join([str(day), who_word(father), who_word(mother), SEXES[man], BIRTHS[wed]])


def news_line(news):
    word, day, who, other = news
    words = [word, str(day), str(who)]
    if word == "awaits":
        words.append(who_word(other))
    return " ".join(words)


def row_line(row):
    founder, men, wed, way = row
    return " ".join([str(founder), men, COUNTED[wed], way])


def who_word(who):
    return NOBODY if who == -1 else str(who)
